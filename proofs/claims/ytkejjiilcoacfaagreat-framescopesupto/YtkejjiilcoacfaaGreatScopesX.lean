/- FrameScopes along its text. -/
import Derived.Test.YtkejjiilcoacfaaGreatScopesB
namespace Go.Proofs.YtkejjiilcoacfaaGreat
open Go.Maps Go.RowKit Go.WideMaps
set_option maxRecDepth 100000 in
set_option maxHeartbeats 32000000 in
theorem scopes_walk (w : World) (a a' : Option Addr) (n n' c c' : Nat) (os os' : List OpC) (hl : os.length = n) (hl' : os'.length = n') (hos : OpsOk os) (hos' : OpsOk os') (hs : n ≤ 262144) (hs' : n' ≤ 262144) (hA : OpsAt w a os) (hA' : OpsAt w a' os') :
    Calls Tryz.prog 6 #[.slice a n c, .slice a' n' c'] w fun e w' => e = .returned (.bool true) ∧ Below w.heap.size w w' := by
  have OPS : Hid (OpsAt w a os ∧ OpsOk os ∧ os.length = n) := ⟨hA, hos, hl⟩
  have OPT : Hid (OpsAt w a' os' ∧ OpsOk os' ∧ os'.length = n') := ⟨hA', hos', hl'⟩
  have AL : Hid _ := alive_any w
  have NE : Hid (∀ W, Calls Tryz.prog 9 #[.func (.func 10) #[] #[]] W fun e w' => ∃ P, e = .returned (.pointer (some ⟨P, 0, none⟩)) ∧ StA W.heap.size w' P [⟨[], []⟩] ∧ Below W.heap.size W w') := fun W => new_st W
  have NU : Hid (∀ n wx, Calls Tryz.prog 11 #[.int .i64 n] wx fun e w' => e = .returned (.int .i64 n) ∧ w' = wx) := fun n wx => num_any wx n
  clear hl hos hA hl' hos' hA'
  go_enter Tryz.func6, Tryz.ntmps6
  go_wp2_with fail
  refine Calls.mono AL.out ?_
  rintro e w1 ⟨rfl, hb1⟩
  have B1 : Hid (Below w.heap.size w w1) := hb1
  clear hb1 AL
  go_wp2_with fail
  refine Calls.mono (NE.out _) ?_
  rintro e w2 ⟨P, rfl, hS2, hb2⟩
  have R2 : Hid (RoundN w w2 P 0 [⟨[], []⟩]) := ⟨Good.new _, by
    obtain ⟨O, vS, xs, h1, h2, h3⟩ := hS2
    exact ⟨O, vS, xs, h1, h2, fun g hg => Nat.le_trans B1.out.size (h3 g hg)⟩, B1.out.trans (hb2.mono B1.out.size)⟩
  clear NE hS2 hb2 B1
  go_wp2_with fail
  go_loopw [6] (fun v6 wx => ∃ i : Nat, i ≤ n ∧ v6 = .int .i64 i ∧ Hid (∃ l, RoundN w wx P i l)) (fun v6 _ => n - (intOf v6).toNat)
  case atStart => exact ⟨0, Nat.zero_le _, rfl, _, R2.out⟩
  case round =>
    obtain ⟨i, hi, rfl, hR⟩ := hrel
    clear R2
    obtain ⟨l, hRn⟩ := hR.out
    have RN : Hid (RoundN w wr P i l) := hRn
    have SCO : Hid _ := scope_keep hRn.st hRn.g (by omega)
    clear hR hRn
    by_cases hlt : i < n
    · have n1 : (i : Int) < (n : Int) := by omega
      obtain ⟨x, hx⟩ : ∃ x, os[i]? = some x := ⟨_, List.getElem?_eq_getElem (by rw [OPS.out.2.2]; exact hlt)⟩
      have hxm := List.mem_of_getElem? hx
      obtain ⟨b, off, ea, q0, q1, q2, q3, q4, q5⟩ := OPS.out.1 i x hx
      have XO : Hid (OpOk 1048576 x.o ∧ x.o.lab.size ≤ 281474976710656 ∧ NsAt w x.ea x.o.e) := ⟨OPS.out.2.1.o x hxm, OPS.out.2.1.l x hxm, q5⟩
      subst ea
      obtain ⟨ne, hne⟩ : ∃ ne, x.o.e.length = ne := ⟨_, rfl⟩
      have HNE : Hid (x.o.e.length = ne) := hne
      rw [hne] at q4
      have CE : Hid (∀ W, Below w.heap.size w W → W.cell? ⟨b, off + i * 5, none⟩ = some (.int .i64 x.o.k) ∧ W.cell? ⟨b, off + i * 5 + 1, none⟩ = some (.string x.o.lab) ∧ W.cell? ⟨b, off + i * 5 + 2, none⟩ = some (.int .i64 x.o.a) ∧ W.cell? ⟨b, off + i * 5 + 3, none⟩ = some (.int .i64 x.o.b) ∧ W.cell? ⟨b, off + i * 5 + 4, none⟩ = some (.slice x.ea ne x.ec)) := fun W hW => ⟨cell_under hW q0, cell_under hW q1, cell_under hW q2, cell_under hW q3, cell_under hW q4⟩
      clear q0 q1 q2 q3 q4 q5 hx hxm hne
      go_wp2_with fail
      refine Calls.mono SCO.out ?_
      rintro e w3 ⟨hb3, ah, nh, ch, ap, np, cp, ts, m, rfl, hK⟩
      obtain ⟨w4, hw4⟩ : ∃ w4, w4 = w3.alloc (.cells #[.slice ah nh ch, .slice ap np cp] 37) := ⟨_, rfl⟩
      obtain ⟨S, hS⟩ : ∃ S, w3.heap.size = S := ⟨_, rfl⟩
      rw [← hw4, hS] at hK
      have HW4 : Hid (w4 = w3.alloc (.cells #[.slice ah nh ch, .slice ap np cp] 37)) := hw4
      have HS : Hid (w3.heap.size = S) := hS
      have b4 : Below wr.heap.size wr w4 := hb3.trans (by rw [hw4]; exact (fr_below_alloc _ _).mono hb3.size)
      have s4 : w4.heap.size = S + 1 := by rw [hw4, al_size, hS]
      obtain ⟨N0, hN0⟩ : ∃ N0, wr.heap.size = N0 := ⟨_, rfl⟩
      have R4 : Hid (RoundS w w4 P N0 (S + 1) l) := by have h := round_of RN.out.st RN.out.b b4 (S + 1) (by omega); rw [hN0] at h; exact h
      rw [hN0] at hK
      have K4 : Hid (KeepS N0 (S + 1) w4 l S ah ap nh ch np cp ts m) := hK
      have DE : Hid _ := depth_st R4.out.sta (by have := RN.out.g.n1; omega)
      obtain ⟨q0, q1, q2, q3, q4⟩ := CE.out w4 R4.out.b
      have SAY : Hid _ := says_rs R4.out (RN.out.g.ok (by omega) (by omega)) x XO.out.1 XO.out.2.1 XO.out.2.2
      rw [HNE.out] at SAY
      obtain ⟨l1, hl1⟩ : ∃ l1, sayL l x.o = l1 := ⟨_, rfl⟩
      obtain ⟨SE, hSE⟩ : ∃ SE, sayE l x.o = SE := ⟨_, rfl⟩
      have G1 : Hid (Good (i + 1) 1048576 l1 ∧ (SE ≠ 0 → l1 = l)) := ⟨by rw [← hl1]; exact RN.out.g.step x.o XO.out.1, fun h => by rw [← hl1]; exact say_same (by rw [hSE]; exact h)⟩
      rw [hl1, hSE] at SAY
      obtain ⟨LD, hLD⟩ : ∃ LD : Int, (l.length : Int) - 1 = LD := ⟨_, rfl⟩
      have HLD : Hid ((l.length : Int) - 1 = LD) := hLD
      rw [hLD] at DE
      clear hw4 hS b4 s4 hN0 hK hb3 SCO hl1 hSE hLD
      go_upto_region 10 with fail
      rw [← HW4.out, HS.out]
      clear HW4 HS
      go_wp2_with fail
      refine Calls.mono DE.out ?_
      rintro e wz ⟨rfl, hwz⟩
      subst wz
      go_wp2_with fail
      refine Calls.mono SAY.out ?_
      rintro e w5 ⟨rfl, hR5, hC5⟩
      have R5 : Hid (RoundS w w5 P N0 (S + 1) l1) := hR5
      have K5 : Hid (KeepS N0 (S + 1) w5 l S ah ap nh ch np cp ts m) := K4.out.kc hC5
      clear hR5 hC5 SAY DE K4 R4 q0 q1 q2 q3 q4
      go_upto_region 12 with fail
      go_cut [59] (fun v59 wx => v59 = .bool false ∧ Hid (Below w5.heap.size w5 wx))
      case first => as_aux_lemma =>
        have H0 : Hid (Below w5.heap.size w5 w5.drew) := fr_below_drewN (Below.refl _ _) 1
        have SF : Hid (∀ W, Below w5.heap.size w5 W → W.cell? ⟨S, 0, none⟩ = some (.slice ah nh ch) ∧ W.cell? ⟨S, 1, none⟩ = some (.slice ap np cp)) := fun W hW => ⟨M.cell_whole (K5.out.below hW).box 0, M.cell_whole (K5.out.below hW).box 1⟩
        by_cases hE : SE = 0
        · subst hE
          refine wp_region_held_drew (S := fun w' => w'.cell? ⟨S, 0, none⟩ = some (.slice ah nh ch) ∧ w'.cell? ⟨S, 1, none⟩ = some (.slice ap np cp)) (by kernel_rfl) ?_ (fun hHeld => ?_)
          · exact SF.out _ H0.out
          refine wpAnyH_take (i := 0) (oi := { dst := some 45, op := Op.move (Operand.tmp 9), type := 3, pos := "outright.go:140", after := #[], guard := none }) (v := ?_) rfl (by kernel_rfl) (by kernel_rfl) (by kernel_rfl) (fun _ _ _ h => h) (Or.inl ⟨by rfl, ?_⟩) hHeld ?_
          rotate_left
          · (intro w hSw; (try dsimp only at hSw); go_simp; try with_reducible rfl)
          try simp only [Act.put, List.setIfInBounds_toArray, List.set_cons_zero, List.set_cons_succ]
          refine wpAnyH_take (i := 1) (oi := { dst := some 46, op := Op.binOp BinOp.neq 3 (Operand.tmp 45) (Operand.const (Value.int IntKind.i64 0)) 3, type := 4, pos := "outright.go:140", after := #[{ on := 0, ground := Ground.data }], guard := none }) (v := ?_) rfl (by kernel_rfl) (by kernel_rfl) (by kernel_rfl) (fun _ _ _ h => h) (Or.inl ⟨by rfl, ?_⟩) hHeld ?_
          rotate_left
          · (intro w hSw; (try dsimp only at hSw); go_simp; try with_reducible rfl)
          try simp only [Act.put, List.setIfInBounds_toArray, List.set_cons_zero, List.set_cons_succ]
          refine wpAnyH_take (i := 2) (oi := { dst := some 47, op := Op.move (Operand.tmp 46), type := 4, pos := "outright.go:140", after := #[{ on := 1, ground := Ground.data }], guard := none }) (v := ?_) rfl (by kernel_rfl) (by kernel_rfl) (by kernel_rfl) (fun _ _ _ h => h) (Or.inl ⟨by rfl, ?_⟩) hHeld ?_
          rotate_left
          · (intro w hSw; (try dsimp only at hSw); go_simp; try with_reducible rfl)
          try simp only [Act.put, List.setIfInBounds_toArray, List.set_cons_zero, List.set_cons_succ]
          refine wpAnyH_take (i := 3) (oi := { dst := some 48, op := Op.move (Operand.tmp 5), type := 25, pos := "outright.go:140", after := #[{ on := 2, ground := Ground.guard }], guard := some (2, true) }) (v := undef) rfl (by kernel_rfl) (by kernel_rfl) (by kernel_rfl) (fun _ _ _ h => h) (Or.inr ⟨by rfl, rfl⟩) hHeld ?_
          try simp only [Act.put, List.setIfInBounds_toArray, List.set_cons_zero, List.set_cons_succ]
          refine wpAnyH_take (i := 4) (oi := { dst := some 49, op := Op.call { callee := Callee.value (Operand.func 15), args := #[Operand.tmp 48], argTypes := #[25] }, type := 37, pos := "outright.go:140", after := #[{ on := 3, ground := Ground.data }, { on := 2, ground := Ground.chain }, { on := 2, ground := Ground.guard }], guard := some (2, true) }) (v := undef) rfl (by kernel_rfl) (by kernel_rfl) (by kernel_rfl) (fun _ _ _ h => h) (Or.inr ⟨by rfl, rfl⟩) hHeld ?_
          try simp only [Act.put, List.setIfInBounds_toArray, List.set_cons_zero, List.set_cons_succ]
          refine wpAnyH_take (i := 5) (oi := { dst := some 50, op := Op.load 37 (Operand.tmp 7), type := 37, pos := "outright.go:140", after := #[{ on := 2, ground := Ground.guard }], guard := some (2, true) }) (v := undef) rfl (by kernel_rfl) (by kernel_rfl) (by kernel_rfl) (fun _ _ _ h => h) (Or.inr ⟨by rfl, rfl⟩) hHeld ?_
          try simp only [Act.put, List.setIfInBounds_toArray, List.set_cons_zero, List.set_cons_succ]
          refine wpAnyH_take (i := 6) (oi := { dst := some 51, op := Op.call { callee := Callee.value (Operand.func 19), args := #[Operand.tmp 49, Operand.tmp 50], argTypes := #[37, 37] }, type := 4, pos := "outright.go:140", after := #[{ on := 4, ground := Ground.data }, { on := 5, ground := Ground.data }, { on := 4, ground := Ground.chain }, { on := 2, ground := Ground.guard }], guard := some (2, true) }) (v := undef) rfl (by kernel_rfl) (by kernel_rfl) (by kernel_rfl) (fun _ _ _ h => h) (Or.inr ⟨by rfl, rfl⟩) hHeld ?_
          try simp only [Act.put, List.setIfInBounds_toArray, List.set_cons_zero, List.set_cons_succ]
          refine wpAnyH_take (i := 7) (oi := { dst := some 52, op := Op.unOp UnOp.not 4 (Operand.tmp 51), type := 4, pos := "outright.go:140", after := #[{ on := 6, ground := Ground.data }, { on := 2, ground := Ground.guard }], guard := some (2, true) }) (v := undef) rfl (by kernel_rfl) (by kernel_rfl) (by kernel_rfl) (fun _ _ _ h => h) (Or.inr ⟨by rfl, rfl⟩) hHeld ?_
          try simp only [Act.put, List.setIfInBounds_toArray, List.set_cons_zero, List.set_cons_succ]
          refine wpAnyH_take (i := 8) (oi := { dst := some 53, op := Op.move (Operand.tmp 52), type := 4, pos := "outright.go:140", after := #[{ on := 7, ground := Ground.data }, { on := 6, ground := Ground.chain }, { on := 2, ground := Ground.guard }], guard := some (2, true) }) (v := undef) rfl (by kernel_rfl) (by kernel_rfl) (by kernel_rfl) (fun _ _ _ h => h) (Or.inr ⟨by rfl, rfl⟩) hHeld ?_
          try simp only [Act.put, List.setIfInBounds_toArray, List.set_cons_zero, List.set_cons_succ]
          refine wpAnyH_take (i := 9) (oi := { dst := some 54, op := Op.move (Operand.tmp 5), type := 25, pos := "outright.go:140", after := #[{ on := 8, ground := Ground.guard }], guard := some (8, false) }) (v := undef) rfl (by kernel_rfl) (by kernel_rfl) (by kernel_rfl) (fun _ _ _ h => h) (Or.inr ⟨by rfl, rfl⟩) hHeld ?_
          try simp only [Act.put, List.setIfInBounds_toArray, List.set_cons_zero, List.set_cons_succ]
          refine wpAnyH_take (i := 10) (oi := { dst := some 55, op := Op.call { callee := Callee.value (Operand.func 13), args := #[Operand.tmp 54], argTypes := #[25] }, type := 3, pos := "outright.go:140", after := #[{ on := 9, ground := Ground.data }, { on := 8, ground := Ground.chain }, { on := 8, ground := Ground.guard }], guard := some (8, false) }) (v := undef) rfl (by kernel_rfl) (by kernel_rfl) (by kernel_rfl) (fun _ _ _ h => h) (Or.inr ⟨by rfl, rfl⟩) hHeld ?_
          try simp only [Act.put, List.setIfInBounds_toArray, List.set_cons_zero, List.set_cons_succ]
          refine wpAnyH_take (i := 11) (oi := { dst := some 56, op := Op.move (Operand.tmp 8), type := 3, pos := "outright.go:140", after := #[{ on := 8, ground := Ground.guard }], guard := some (8, false) }) (v := undef) rfl (by kernel_rfl) (by kernel_rfl) (by kernel_rfl) (fun _ _ _ h => h) (Or.inr ⟨by rfl, rfl⟩) hHeld ?_
          try simp only [Act.put, List.setIfInBounds_toArray, List.set_cons_zero, List.set_cons_succ]
          refine wpAnyH_take (i := 12) (oi := { dst := some 57, op := Op.binOp BinOp.neq 3 (Operand.tmp 55) (Operand.tmp 56) 3, type := 4, pos := "outright.go:140", after := #[{ on := 10, ground := Ground.data }, { on := 11, ground := Ground.data }, { on := 8, ground := Ground.guard }], guard := some (8, false) }) (v := undef) rfl (by kernel_rfl) (by kernel_rfl) (by kernel_rfl) (fun _ _ _ h => h) (Or.inr ⟨by rfl, rfl⟩) hHeld ?_
          try simp only [Act.put, List.setIfInBounds_toArray, List.set_cons_zero, List.set_cons_succ]
          refine wpAnyH_take (i := 13) (oi := { dst := some 58, op := Op.pick (Operand.tmp 53) (Operand.const (Value.bool true)) (Operand.tmp 57), type := 4, pos := "outright.go:140", after := #[{ on := 8, ground := Ground.data }, { on := 12, ground := Ground.data }, { on := 2, ground := Ground.guard }], guard := some (2, true) }) (v := undef) rfl (by kernel_rfl) (by kernel_rfl) (by kernel_rfl) (fun _ _ _ h => h) (Or.inr ⟨by rfl, rfl⟩) hHeld ?_
          try simp only [Act.put, List.setIfInBounds_toArray, List.set_cons_zero, List.set_cons_succ]
          refine wpAnyH_take (i := 14) (oi := { dst := some 59, op := Op.pick (Operand.tmp 47) (Operand.tmp 58) (Operand.const (Value.bool false)), type := 4, pos := "outright.go:140", after := #[{ on := 2, ground := Ground.data }, { on := 13, ground := Ground.data }], guard := none }) (v := ?_) rfl (by kernel_rfl) (by kernel_rfl) (by kernel_rfl) (fun _ _ _ h => h) (Or.inl ⟨by rfl, ?_⟩) hHeld ?_
          rotate_left
          · (intro w hSw; (try dsimp only at hSw); go_simp; try with_reducible rfl)
          try simp only [Act.put, List.setIfInBounds_toArray, List.set_cons_zero, List.set_cons_succ]
          refine wpAnyH_done (by kernel_rfl) ?_ _
          go_wp2_with fail
          go_meet
          exact ⟨by first | rfl | simp, H0.out⟩
        · have hl1 := G1.out.2 hE
          subst hl1
          have hE2 : (SE == 0) = false := by simpa using hE
          have hE3 : (SE != 0) = true := by simpa using hE
          have hE4 : decide (SE = 0) = false := by simpa using hE
          have SCP : Hid _ := scope_law (R5.out.sta.below H0.out) G1.out.1 (by omega)
          refine wp_region_held_drew (S := fun w' => w'.cell? ⟨S, 0, none⟩ = some (.slice ah nh ch) ∧ w'.cell? ⟨S, 1, none⟩ = some (.slice ap np cp)) (by kernel_rfl) ?_ (fun hHeld => ?_)
          · exact SF.out _ H0.out
          refine wpAnyH_take (i := 0) (oi := { dst := some 45, op := Op.move (Operand.tmp 9), type := 3, pos := "outright.go:140", after := #[], guard := none }) (v := ?_) rfl (by kernel_rfl) (by kernel_rfl) (by kernel_rfl) (fun _ _ _ h => h) (Or.inl ⟨by rfl, ?_⟩) hHeld ?_
          rotate_left
          · (intro w hSw; (try dsimp only at hSw); go_simp; try with_reducible rfl)
          try simp only [Act.put, List.setIfInBounds_toArray, List.set_cons_zero, List.set_cons_succ]
          refine wpAnyH_take (i := 1) (oi := { dst := some 46, op := Op.binOp BinOp.neq 3 (Operand.tmp 45) (Operand.const (Value.int IntKind.i64 0)) 3, type := 4, pos := "outright.go:140", after := #[{ on := 0, ground := Ground.data }], guard := none }) (v := ?_) rfl (by kernel_rfl) (by kernel_rfl) (by kernel_rfl) (fun _ _ _ h => h) (Or.inl ⟨by rfl, ?_⟩) hHeld ?_
          rotate_left
          · (intro w hSw; (try dsimp only at hSw); go_simp; try with_reducible rfl)
          try simp only [Act.put, List.setIfInBounds_toArray, List.set_cons_zero, List.set_cons_succ]
          refine wpAnyH_take (i := 2) (oi := { dst := some 47, op := Op.move (Operand.tmp 46), type := 4, pos := "outright.go:140", after := #[{ on := 1, ground := Ground.data }], guard := none }) (v := ?_) rfl (by kernel_rfl) (by kernel_rfl) (by kernel_rfl) (fun _ _ _ h => h) (Or.inl ⟨by rfl, ?_⟩) hHeld ?_
          rotate_left
          · (intro w hSw; (try dsimp only at hSw); go_simp; try with_reducible rfl)
          try simp only [Act.put, List.setIfInBounds_toArray, List.set_cons_zero, List.set_cons_succ]
          refine wpAnyH_take (i := 3) (oi := { dst := some 48, op := Op.move (Operand.tmp 5), type := 25, pos := "outright.go:140", after := #[{ on := 2, ground := Ground.guard }], guard := some (2, true) }) (v := ?_) rfl (by kernel_rfl) (by kernel_rfl) (by kernel_rfl) (fun _ _ _ h => h) (Or.inl ⟨by rfl, ?_⟩) hHeld ?_
          rotate_left
          · (intro w hSw; (try dsimp only at hSw); go_simp; try with_reducible rfl)
          try simp only [Act.put, List.setIfInBounds_toArray, List.set_cons_zero, List.set_cons_succ]
          refine wpAnyH_take (i := 5) (oi := { dst := some 50, op := Op.load 37 (Operand.tmp 7), type := 37, pos := "outright.go:140", after := #[{ on := 2, ground := Ground.guard }], guard := some (2, true) }) (v := ?_) rfl (by kernel_rfl) (by kernel_rfl) (by kernel_rfl) (fun _ _ _ h => h) (Or.inl ⟨by rfl, ?_⟩) hHeld ?_
          rotate_left
          · (intro w hSw; (try dsimp only at hSw); go_simp; try with_reducible rfl)
          try simp only [Act.put, List.setIfInBounds_toArray, List.set_cons_zero, List.set_cons_succ]
          refine wpAnyH_ready (rs := [4]) (by kernel_rfl) (by simp) ?_
          refine AllReadyH.cons (o := { dst := some 49, op := Op.call { callee := Callee.value (Operand.func 15), args := #[Operand.tmp 48], argTypes := #[25] }, type := 37, pos := "outright.go:140", after := #[{ on := 3, ground := Ground.data }, { on := 2, ground := Ground.chain }, { on := 2, ground := Ground.guard }], guard := some (2, true) }) rfl (fun K hK => ?_) AllReadyH.nil
          go_simp
          go_at_call 15
          refine Calls.mono SCP.out ?_
          rintro e w9 ⟨hb9, a9, n9, c9, p9, k9, d9, ts9, m9, rfl, hs9⟩
          have H9 : Hid (Below w5.heap.size w5 w9) := H0.out.trans (hb9.mono H0.out.size)
          have SAM : Hid _ := same_told G1.out.1 (by omega) hs9 (K5.out.below H9.out).told c9 d9 ch cp
          have DE : Hid (∀ W, Below w5.heap.size w5 W → Calls Tryz.prog 13 #[.pointer (some ⟨P, 0, none⟩)] W fun e w' => e = .returned (.int .i64 LD) ∧ w' = W) := fun W hW => by have h := depth_st (R5.out.sta.below hW) (by have := G1.out.1.n1; omega); rw [HLD.out] at h; exact h
          clear hb9 hs9 SCP
          try go_wp2_with fail
          refine hK.out _ _ ?_ (fun hHeld_4 => ?_)
          · exact SF.out _ H9.out
          clear hK K
          try simp only [Act.put, List.setIfInBounds_toArray, List.set_cons_zero, List.set_cons_succ]
          refine wpAnyH_ready (rs := [6]) (by kernel_rfl) (by simp) ?_
          refine AllReadyH.cons (o := { dst := some 51, op := Op.call { callee := Callee.value (Operand.func 19), args := #[Operand.tmp 49, Operand.tmp 50], argTypes := #[37, 37] }, type := 4, pos := "outright.go:140", after := #[{ on := 4, ground := Ground.data }, { on := 5, ground := Ground.data }, { on := 4, ground := Ground.chain }, { on := 2, ground := Ground.guard }], guard := some (2, true) }) rfl (fun K hK => ?_) AllReadyH.nil
          go_simp
          go_at_call 19
          refine Calls.mono SAM.out ?_
          rintro e w10 ⟨rfl, hb10⟩
          have H10 : Hid (Below w5.heap.size w5 w10) := H9.out.trans (hb10.mono H9.out.size)
          clear hb10 SAM
          try go_wp2_with fail
          refine hK.out _ _ ?_ (fun hHeld_6 => ?_)
          · exact SF.out _ H10.out
          clear hK K
          try simp only [Act.put, List.setIfInBounds_toArray, List.set_cons_zero, List.set_cons_succ]
          refine wpAnyH_take (i := 7) (oi := { dst := some 52, op := Op.unOp UnOp.not 4 (Operand.tmp 51), type := 4, pos := "outright.go:140", after := #[{ on := 6, ground := Ground.data }, { on := 2, ground := Ground.guard }], guard := some (2, true) }) (v := ?_) rfl (by kernel_rfl) (by kernel_rfl) (by kernel_rfl) (fun _ _ _ h => h) (Or.inl ⟨by rfl, ?_⟩) hHeld_6 ?_
          rotate_left
          · (intro w hSw; (try dsimp only at hSw); go_simp; try with_reducible rfl)
          try simp only [Act.put, List.setIfInBounds_toArray, List.set_cons_zero, List.set_cons_succ]
          refine wpAnyH_take (i := 8) (oi := { dst := some 53, op := Op.move (Operand.tmp 52), type := 4, pos := "outright.go:140", after := #[{ on := 7, ground := Ground.data }, { on := 6, ground := Ground.chain }, { on := 2, ground := Ground.guard }], guard := some (2, true) }) (v := ?_) rfl (by kernel_rfl) (by kernel_rfl) (by kernel_rfl) (fun _ _ _ h => h) (Or.inl ⟨by rfl, ?_⟩) hHeld_6 ?_
          rotate_left
          · (intro w hSw; (try dsimp only at hSw); go_simp; try with_reducible rfl)
          try simp only [Act.put, List.setIfInBounds_toArray, List.set_cons_zero, List.set_cons_succ]
          refine wpAnyH_take (i := 9) (oi := { dst := some 54, op := Op.move (Operand.tmp 5), type := 25, pos := "outright.go:140", after := #[{ on := 8, ground := Ground.guard }], guard := some (8, false) }) (v := ?_) rfl (by kernel_rfl) (by kernel_rfl) (by kernel_rfl) (fun _ _ _ h => h) (Or.inl ⟨by rfl, ?_⟩) hHeld_6 ?_
          rotate_left
          · (intro w hSw; (try dsimp only at hSw); go_simp; try with_reducible rfl)
          try simp only [Act.put, List.setIfInBounds_toArray, List.set_cons_zero, List.set_cons_succ]
          refine wpAnyH_take (i := 11) (oi := { dst := some 56, op := Op.move (Operand.tmp 8), type := 3, pos := "outright.go:140", after := #[{ on := 8, ground := Ground.guard }], guard := some (8, false) }) (v := ?_) rfl (by kernel_rfl) (by kernel_rfl) (by kernel_rfl) (fun _ _ _ h => h) (Or.inl ⟨by rfl, ?_⟩) hHeld_6 ?_
          rotate_left
          · (intro w hSw; (try dsimp only at hSw); go_simp; try with_reducible rfl)
          try simp only [Act.put, List.setIfInBounds_toArray, List.set_cons_zero, List.set_cons_succ]
          refine wpAnyH_ready (rs := [10]) (by kernel_rfl) (by simp) ?_
          refine AllReadyH.cons (o := { dst := some 55, op := Op.call { callee := Callee.value (Operand.func 13), args := #[Operand.tmp 54], argTypes := #[25] }, type := 3, pos := "outright.go:140", after := #[{ on := 9, ground := Ground.data }, { on := 8, ground := Ground.chain }, { on := 8, ground := Ground.guard }], guard := some (8, false) }) rfl (fun K hK => ?_) AllReadyH.nil
          go_simp
          go_at_call 13
          refine Calls.mono (DE.out _ H10.out) ?_
          rintro e wz ⟨rfl, hwz⟩
          subst wz
          try go_wp2_with fail
          refine hK.out _ _ ?_ (fun hHeld_10 => ?_)
          · exact SF.out _ H10.out
          clear hK K
          try simp only [Act.put, List.setIfInBounds_toArray, List.set_cons_zero, List.set_cons_succ]
          refine wpAnyH_take (i := 12) (oi := { dst := some 57, op := Op.binOp BinOp.neq 3 (Operand.tmp 55) (Operand.tmp 56) 3, type := 4, pos := "outright.go:140", after := #[{ on := 10, ground := Ground.data }, { on := 11, ground := Ground.data }, { on := 8, ground := Ground.guard }], guard := some (8, false) }) (v := ?_) rfl (by kernel_rfl) (by kernel_rfl) (by kernel_rfl) (fun _ _ _ h => h) (Or.inl ⟨by rfl, ?_⟩) hHeld_10 ?_
          rotate_left
          · (intro w hSw; (try dsimp only at hSw); go_simp; try with_reducible rfl)
          try simp only [Act.put, List.setIfInBounds_toArray, List.set_cons_zero, List.set_cons_succ]
          refine wpAnyH_take (i := 13) (oi := { dst := some 58, op := Op.pick (Operand.tmp 53) (Operand.const (Value.bool true)) (Operand.tmp 57), type := 4, pos := "outright.go:140", after := #[{ on := 8, ground := Ground.data }, { on := 12, ground := Ground.data }, { on := 2, ground := Ground.guard }], guard := some (2, true) }) (v := ?_) rfl (by kernel_rfl) (by kernel_rfl) (by kernel_rfl) (fun _ _ _ h => h) (Or.inl ⟨by rfl, ?_⟩) hHeld_10 ?_
          rotate_left
          · (intro w hSw; (try dsimp only at hSw); go_simp; try with_reducible rfl)
          try simp only [Act.put, List.setIfInBounds_toArray, List.set_cons_zero, List.set_cons_succ]
          refine wpAnyH_take (i := 14) (oi := { dst := some 59, op := Op.pick (Operand.tmp 47) (Operand.tmp 58) (Operand.const (Value.bool false)), type := 4, pos := "outright.go:140", after := #[{ on := 2, ground := Ground.data }, { on := 13, ground := Ground.data }], guard := none }) (v := ?_) rfl (by kernel_rfl) (by kernel_rfl) (by kernel_rfl) (fun _ _ _ h => h) (Or.inl ⟨by rfl, ?_⟩) hHeld_10 ?_
          rotate_left
          · (intro w hSw; (try dsimp only at hSw); go_simp; try with_reducible rfl)
          try simp only [Act.put, List.setIfInBounds_toArray, List.set_cons_zero, List.set_cons_succ]
          refine wpAnyH_done (by kernel_rfl) ?_ _
          go_wp2_with fail
          go_meet
          exact ⟨by first | rfl | simp, H10.out⟩
      case rest => as_aux_lemma =>
        obtain ⟨rfl, hb8⟩ := hcut
        have RE : Hid (RoundN w wc P (i + 1) l1) := ⟨G1.out.1, R5.out.sta.below hb8.out, (R5.out.under hb8.out).b⟩
        clear hb8 R5 K5
        go_wp2
        exact ⟨⟨i + 1, by omega, by go_num, l1, RE.out⟩, by simp [intOf]; omega⟩
    · have n1 : ¬ (i : Int) < (n : Int) := by omega
      obtain ⟨wl, hwl⟩ : ∃ wl, wl = wr := ⟨_, rfl⟩
      subst hwl
      have hin : i = n := by omega
      subst hin
      go_wp2_with fail
      refine Calls.mono SCO.out ?_
      rintro e w3 ⟨hb3, ah, nh, ch, ap, np, cp, ts, m, rfl, hK⟩
      obtain ⟨w4, hw4⟩ : ∃ w4, w4 = w3.alloc (.cells #[.slice ah nh ch, .slice ap np cp] 37) := ⟨_, rfl⟩
      obtain ⟨S, hS⟩ : ∃ S, w3.heap.size = S := ⟨_, rfl⟩
      rw [← hw4, hS] at hK
      have HW4 : Hid (w4 = w3.alloc (.cells #[.slice ah nh ch, .slice ap np cp] 37)) := hw4
      have HS : Hid (w3.heap.size = S) := hS
      have b4 : Below wl.heap.size wl w4 := hb3.trans (by rw [hw4]; exact (fr_below_alloc _ _).mono hb3.size)
      have s4 : w4.heap.size = S + 1 := by rw [hw4, al_size, hS]
      obtain ⟨N0, hN0⟩ : ∃ N0, wl.heap.size = N0 := ⟨_, rfl⟩
      have R4 : Hid (RoundS w w4 P N0 (S + 1) l) := by have h := round_of RN.out.st RN.out.b b4 (S + 1) (by omega); rw [hN0] at h; exact h
      rw [hN0] at hK
      have K4 : Hid (KeepS N0 (S + 1) w4 l S ah ap nh ch np cp ts m) := hK
      have GL : Hid (Good i 1048576 l) := RN.out.g
      have DE : Hid _ := depth_st R4.out.sta (by have := GL.out.n1; omega)
      have OPN : Hid _ := open_rs R4.out (by have := GL.out.n1; omega)
      obtain ⟨LD, hLD⟩ : ∃ LD : Int, (l.length : Int) - 1 = LD := ⟨_, rfl⟩
      have HLD : Hid ((l.length : Int) - 1 = LD) := hLD
      have ld0 : 0 ≤ LD := by have := GL.out.n0; omega
      have ld1 : LD ≤ 16 := by have := GL.out.n1; omega
      rw [hLD] at DE
      clear hw4 hS b4 s4 hN0 hK hb3 SCO hLD RN
      go_upto_region 15 with fail
      rw [← HW4.out, HS.out]
      clear HW4 HS
      go_wp2_with fail
      refine Calls.mono DE.out ?_
      rintro e wz ⟨rfl, hwz⟩
      subst wz
      go_wp2_with fail
      refine Calls.mono OPN.out ?_
      rintro e w5 ⟨rfl, hR5, hC5⟩
      have K5 : Hid (KeepS N0 (S + 1) w5 l S ah ap nh ch np cp ts m) := K4.out.kc hC5
      by_cases h17 : 17 ≤ l.length
      · have e1 : openE l = 23 := by unfold openE; rw [if_pos h17]
        have e2 : openL l = l := by unfold openL; rw [if_pos h17]
        have e3 : LD = 16 := by have := HLD.out; have := GL.out.n1; omega
        subst e3
        rw [e2] at hR5
        rw [e1]
        have DE2 : Hid _ := depth_st hR5.sta (by have := GL.out.n1; omega)
        rw [HLD.out] at DE2
        have BF : Hid (Below w.heap.size w w5) := hR5.b
        clear hR5 hC5 K5 K4 R4 DE OPN e1 e2 h17
        go_wp2_with fail
        refine Calls.mono (NU.out _ _) ?_
        rintro e wz ⟨rfl, hwz⟩
        subst wz
        go_wp2_with fail
        refine Calls.mono DE2.out ?_
        rintro e wz ⟨rfl, hwz⟩
        subst wz
        go_wp2
        go_ret
        exact ⟨rfl, BF.out⟩
      · have e1 : openE l = 0 := by unfold openE; rw [if_neg h17]
        have e2 : openL l = l ++ [⟨[], []⟩] := by unfold openL; rw [if_neg h17]
        rw [e2] at hR5
        rw [e1]
        have l16 : ¬ LD = 16 := by have := HLD.out; omega
        have l16b : (LD == 16) = false := by simpa using l16
        have hG5 : Good (i + 1) 1048576 (l ++ [⟨[], []⟩]) := by
          have h := GL.out.step ⟨1, ⟨#[]⟩, 0, 0, []⟩ ⟨by unfold wfN; show (-9223372036854775808 : Int) ≤ 0 ∧ (0 : Int) ≤ 9223372036854775807; omega, by unfold wfN; show (-9223372036854775808 : Int) ≤ 0 ∧ (0 : Int) ≤ 9223372036854775807; omega, (fun x hx => by cases hx), Nat.zero_le _⟩
          have e3 : sayL l ⟨1, ⟨#[]⟩, 0, 0, []⟩ = openL l := rfl
          rw [e3, e2] at h
          exact h
        have I5 : Hid (InS w w5 P N0 (S + 1) S l 0 (i + 1) ah ap nh ch np cp ts m [⟨[], []⟩]) := ⟨rfl, hG5, hR5, K5.out⟩
        clear hR5 hC5 K5 K4 R4 DE OPN e1 e2 h17 hG5
        go_upto_region 19 with fail
        go_cut [93] (fun v93 wx => v93 = .bool false ∧ Hid (Below w5.heap.size w5 wx))
        case first => as_aux_lemma =>
          have H0 : Hid (Below w5.heap.size w5 w5.drew) := fr_below_drewN (Below.refl _ _) 1
          have SF : Hid (∀ W, Below w5.heap.size w5 W → W.cell? ⟨S, 0, none⟩ = some (.slice ah nh ch) ∧ W.cell? ⟨S, 1, none⟩ = some (.slice ap np cp)) := fun W hW => ⟨M.cell_whole (I5.out.kp.below hW).box 0, M.cell_whole (I5.out.kp.below hW).box 1⟩
          have DE : Hid (∀ W, Below w5.heap.size w5 W → Calls Tryz.prog 13 #[.pointer (some ⟨P, 0, none⟩)] W fun e w' => e = .returned (.int .i64 (LD + 1)) ∧ w' = W) := fun W hW => by
            have h := depth_st (I5.out.st.sta.below hW) (by have := I5.out.g.n1; omega)
            have e4 : (((l ++ [(⟨[], []⟩ : Sa)]).length : Nat) : Int) - 1 = LD + 1 := by rw [List.length_append]; have := HLD.out; simp; omega
            rw [e4] at h
            exact h
          have lw : IntKind.i64.wrap (LD + 1) = LD + 1 := fr_wrap64 _ (by omega) (by omega)
          have SCP : Hid _ := scope_law (I5.out.st.sta.below H0.out) I5.out.g (by omega)
          refine wp_region_held_drew (S := fun w' => w'.cell? ⟨S, 0, none⟩ = some (.slice ah nh ch) ∧ w'.cell? ⟨S, 1, none⟩ = some (.slice ap np cp)) (by kernel_rfl) ?_ (fun hHeld => ?_)
          · exact SF.out _ H0.out
          refine wpAnyH_take (i := 0) (oi := { dst := some 77, op := Op.move (Operand.tmp 13), type := 29, pos := "outright.go:150", after := #[], guard := none }) (v := ?_) rfl (by kernel_rfl) (by kernel_rfl) (by kernel_rfl) (fun _ _ _ h => h) (Or.inl ⟨by rfl, ?_⟩) hHeld ?_
          rotate_left
          · (intro w hSw; (try dsimp only at hSw); go_simp; try with_reducible rfl)
          try simp only [Act.put, List.setIfInBounds_toArray, List.set_cons_zero, List.set_cons_succ]
          refine wpAnyH_ready (rs := [1]) (by kernel_rfl) (by simp) ?_
          refine AllReadyH.cons (o := { dst := some 78, op := Op.call { callee := Callee.value (Operand.func 11), args := #[Operand.tmp 77], argTypes := #[29] }, type := 3, pos := "outright.go:150", after := #[{ on := 0, ground := Ground.data }], guard := none }) rfl (fun K hK => ?_) AllReadyH.nil
          go_simp
          go_at_call 11
          refine Calls.mono (NU.out _ _) ?_
          rintro e wz ⟨rfl, hwz⟩
          subst wz
          try go_wp2_with fail
          refine hK.out _ _ ?_ (fun hHeld_1 => ?_)
          · exact SF.out _ H0.out
          clear hK K
          try simp only [Act.put, List.setIfInBounds_toArray, List.set_cons_zero, List.set_cons_succ]
          refine wpAnyH_take (i := 2) (oi := { dst := some 79, op := Op.binOp BinOp.neq 3 (Operand.tmp 78) (Operand.const (Value.int IntKind.i64 0)) 3, type := 4, pos := "outright.go:150", after := #[{ on := 1, ground := Ground.data }], guard := none }) (v := ?_) rfl (by kernel_rfl) (by kernel_rfl) (by kernel_rfl) (fun _ _ _ h => h) (Or.inl ⟨by rfl, ?_⟩) hHeld_1 ?_
          rotate_left
          · (intro w hSw; (try dsimp only at hSw); go_simp; try with_reducible rfl)
          try simp only [Act.put, List.setIfInBounds_toArray, List.set_cons_zero, List.set_cons_succ]
          refine wpAnyH_take (i := 3) (oi := { dst := some 80, op := Op.move (Operand.tmp 79), type := 4, pos := "outright.go:150", after := #[{ on := 2, ground := Ground.data }, { on := 1, ground := Ground.chain }], guard := none }) (v := ?_) rfl (by kernel_rfl) (by kernel_rfl) (by kernel_rfl) (fun _ _ _ h => h) (Or.inl ⟨by rfl, ?_⟩) hHeld_1 ?_
          rotate_left
          · (intro w hSw; (try dsimp only at hSw); go_simp; try with_reducible rfl)
          try simp only [Act.put, List.setIfInBounds_toArray, List.set_cons_zero, List.set_cons_succ]
          refine wpAnyH_take (i := 4) (oi := { dst := some 81, op := Op.move (Operand.tmp 5), type := 25, pos := "outright.go:150", after := #[{ on := 3, ground := Ground.guard }], guard := some (3, false) }) (v := ?_) rfl (by kernel_rfl) (by kernel_rfl) (by kernel_rfl) (fun _ _ _ h => h) (Or.inl ⟨by rfl, ?_⟩) hHeld_1 ?_
          rotate_left
          · (intro w hSw; (try dsimp only at hSw); go_simp; try with_reducible rfl)
          try simp only [Act.put, List.setIfInBounds_toArray, List.set_cons_zero, List.set_cons_succ]
          refine wpAnyH_take (i := 6) (oi := { dst := some 83, op := Op.move (Operand.tmp 12), type := 3, pos := "outright.go:150", after := #[{ on := 3, ground := Ground.guard }], guard := some (3, false) }) (v := ?_) rfl (by kernel_rfl) (by kernel_rfl) (by kernel_rfl) (fun _ _ _ h => h) (Or.inl ⟨by rfl, ?_⟩) hHeld_1 ?_
          rotate_left
          · (intro w hSw; (try dsimp only at hSw); go_simp; try with_reducible rfl)
          try simp only [Act.put, List.setIfInBounds_toArray, List.set_cons_zero, List.set_cons_succ]
          refine wpAnyH_take (i := 7) (oi := { dst := some 84, op := Op.binOp BinOp.add 3 (Operand.tmp 83) (Operand.const (Value.int IntKind.i64 1)) 3, type := 3, pos := "outright.go:150", after := #[{ on := 6, ground := Ground.data }, { on := 3, ground := Ground.guard }], guard := some (3, false) }) (v := ?_) rfl (by kernel_rfl) (by kernel_rfl) (by kernel_rfl) (fun _ _ _ h => h) (Or.inl ⟨by rfl, ?_⟩) hHeld_1 ?_
          rotate_left
          · (intro w hSw; (try dsimp only at hSw); go_simp; try with_reducible rfl)
          try simp only [Act.put, List.setIfInBounds_toArray, List.set_cons_zero, List.set_cons_succ]
          refine wpAnyH_ready (rs := [5]) (by kernel_rfl) (by simp) ?_
          refine AllReadyH.cons (o := { dst := some 82, op := Op.call { callee := Callee.value (Operand.func 13), args := #[Operand.tmp 81], argTypes := #[25] }, type := 3, pos := "outright.go:150", after := #[{ on := 4, ground := Ground.data }, { on := 3, ground := Ground.chain }, { on := 3, ground := Ground.guard }], guard := some (3, false) }) rfl (fun K hK => ?_) AllReadyH.nil
          go_simp
          go_at_call 13
          refine Calls.mono (DE.out _ H0.out) ?_
          rintro e wz ⟨rfl, hwz⟩
          subst wz
          try go_wp2_with fail
          refine hK.out _ _ ?_ (fun hHeld_5 => ?_)
          · exact SF.out _ H0.out
          clear hK K
          try simp only [Act.put, List.setIfInBounds_toArray, List.set_cons_zero, List.set_cons_succ]
          refine wpAnyH_take (i := 8) (oi := { dst := some 85, op := Op.binOp BinOp.neq 3 (Operand.tmp 82) (Operand.tmp 84) 3, type := 4, pos := "outright.go:150", after := #[{ on := 5, ground := Ground.data }, { on := 7, ground := Ground.data }, { on := 3, ground := Ground.guard }], guard := some (3, false) }) (v := ?_) rfl (by kernel_rfl) (by kernel_rfl) (by kernel_rfl) (fun _ _ _ h => h) (Or.inl ⟨by rfl, ?_⟩) hHeld_5 ?_
          rotate_left
          · (intro w hSw; (try dsimp only at hSw); go_simp; try with_reducible rfl)
          try simp only [Act.put, List.setIfInBounds_toArray, List.set_cons_zero, List.set_cons_succ]
          refine wpAnyH_take (i := 9) (oi := { dst := some 86, op := Op.pick (Operand.tmp 80) (Operand.const (Value.bool true)) (Operand.tmp 85), type := 4, pos := "outright.go:150", after := #[{ on := 3, ground := Ground.data }, { on := 8, ground := Ground.data }], guard := none }) (v := ?_) rfl (by kernel_rfl) (by kernel_rfl) (by kernel_rfl) (fun _ _ _ h => h) (Or.inl ⟨by rfl, ?_⟩) hHeld_5 ?_
          rotate_left
          · (intro w hSw; (try dsimp only at hSw); go_simp; try with_reducible rfl)
          try simp only [Act.put, List.setIfInBounds_toArray, List.set_cons_zero, List.set_cons_succ]
          refine wpAnyH_take (i := 10) (oi := { dst := some 87, op := Op.move (Operand.tmp 86), type := 4, pos := "outright.go:150", after := #[{ on := 9, ground := Ground.data }, { on := 5, ground := Ground.chain }], guard := none }) (v := ?_) rfl (by kernel_rfl) (by kernel_rfl) (by kernel_rfl) (fun _ _ _ h => h) (Or.inl ⟨by rfl, ?_⟩) hHeld_5 ?_
          rotate_left
          · (intro w hSw; (try dsimp only at hSw); go_simp; try with_reducible rfl)
          try simp only [Act.put, List.setIfInBounds_toArray, List.set_cons_zero, List.set_cons_succ]
          refine wpAnyH_take (i := 11) (oi := { dst := some 88, op := Op.move (Operand.tmp 5), type := 25, pos := "outright.go:150", after := #[{ on := 10, ground := Ground.guard }], guard := some (10, false) }) (v := ?_) rfl (by kernel_rfl) (by kernel_rfl) (by kernel_rfl) (fun _ _ _ h => h) (Or.inl ⟨by rfl, ?_⟩) hHeld_5 ?_
          rotate_left
          · (intro w hSw; (try dsimp only at hSw); go_simp; try with_reducible rfl)
          try simp only [Act.put, List.setIfInBounds_toArray, List.set_cons_zero, List.set_cons_succ]
          refine wpAnyH_take (i := 13) (oi := { dst := some 90, op := Op.load 37 (Operand.tmp 11), type := 37, pos := "outright.go:150", after := #[{ on := 10, ground := Ground.guard }], guard := some (10, false) }) (v := ?_) rfl (by kernel_rfl) (by kernel_rfl) (by kernel_rfl) (fun _ _ _ h => h) (Or.inl ⟨by rfl, ?_⟩) hHeld_5 ?_
          rotate_left
          · (intro w hSw; (try dsimp only at hSw); go_simp; try with_reducible rfl)
          try simp only [Act.put, List.setIfInBounds_toArray, List.set_cons_zero, List.set_cons_succ]
          refine wpAnyH_ready (rs := [12]) (by kernel_rfl) (by simp) ?_
          refine AllReadyH.cons (o := { dst := some 89, op := Op.call { callee := Callee.value (Operand.func 15), args := #[Operand.tmp 88], argTypes := #[25] }, type := 37, pos := "outright.go:150", after := #[{ on := 11, ground := Ground.data }, { on := 10, ground := Ground.chain }, { on := 10, ground := Ground.guard }], guard := some (10, false) }) rfl (fun K hK => ?_) AllReadyH.nil
          go_simp
          go_at_call 15
          refine Calls.mono SCP.out ?_
          rintro e w9 ⟨hb9, a9, n9, c9, p9, k9, d9, ts9, m9, rfl, hs9⟩
          have H9 : Hid (Below w5.heap.size w5 w9) := H0.out.trans (hb9.mono H0.out.size)
          have hs9b : ScopeL w9 l a9 p9 n9 k9 ts9 m9 := ⟨hs9.n, hs9.k, hs9.h.trans (by simp [hypsA]), by have h := hs9.nm; simpa [apsA] using h, hs9.ha, hs9.hp⟩
          have SAM : Hid _ := same_told GL.out (by omega) hs9b (I5.out.kp.below H9.out).told c9 d9 ch cp
          clear hb9 hs9 hs9b SCP
          try go_wp2_with fail
          refine hK.out _ _ ?_ (fun hHeld_12 => ?_)
          · exact SF.out _ H9.out
          clear hK K
          try simp only [Act.put, List.setIfInBounds_toArray, List.set_cons_zero, List.set_cons_succ]
          refine wpAnyH_ready (rs := [14]) (by kernel_rfl) (by simp) ?_
          refine AllReadyH.cons (o := { dst := some 91, op := Op.call { callee := Callee.value (Operand.func 19), args := #[Operand.tmp 89, Operand.tmp 90], argTypes := #[37, 37] }, type := 4, pos := "outright.go:150", after := #[{ on := 12, ground := Ground.data }, { on := 13, ground := Ground.data }, { on := 12, ground := Ground.chain }, { on := 10, ground := Ground.guard }], guard := some (10, false) }) rfl (fun K hK => ?_) AllReadyH.nil
          go_simp
          go_at_call 19
          refine Calls.mono SAM.out ?_
          rintro e w10 ⟨rfl, hb10⟩
          have H10 : Hid (Below w5.heap.size w5 w10) := H9.out.trans (hb10.mono H9.out.size)
          clear hb10 SAM
          try go_wp2_with fail
          refine hK.out _ _ ?_ (fun hHeld_14 => ?_)
          · exact SF.out _ H10.out
          clear hK K
          try simp only [Act.put, List.setIfInBounds_toArray, List.set_cons_zero, List.set_cons_succ]
          refine wpAnyH_take (i := 15) (oi := { dst := some 92, op := Op.unOp UnOp.not 4 (Operand.tmp 91), type := 4, pos := "outright.go:150", after := #[{ on := 14, ground := Ground.data }, { on := 10, ground := Ground.guard }], guard := some (10, false) }) (v := ?_) rfl (by kernel_rfl) (by kernel_rfl) (by kernel_rfl) (fun _ _ _ h => h) (Or.inl ⟨by rfl, ?_⟩) hHeld_14 ?_
          rotate_left
          · (intro w hSw; (try dsimp only at hSw); go_simp; try with_reducible rfl)
          try simp only [Act.put, List.setIfInBounds_toArray, List.set_cons_zero, List.set_cons_succ]
          refine wpAnyH_take (i := 16) (oi := { dst := some 93, op := Op.pick (Operand.tmp 87) (Operand.const (Value.bool true)) (Operand.tmp 92), type := 4, pos := "outright.go:150", after := #[{ on := 10, ground := Ground.data }, { on := 15, ground := Ground.data }], guard := none }) (v := ?_) rfl (by kernel_rfl) (by kernel_rfl) (by kernel_rfl) (fun _ _ _ h => h) (Or.inl ⟨by rfl, ?_⟩) hHeld_14 ?_
          rotate_left
          · (intro w hSw; (try dsimp only at hSw); go_simp; try with_reducible rfl)
          try simp only [Act.put, List.setIfInBounds_toArray, List.set_cons_zero, List.set_cons_succ]
          refine wpAnyH_done (by kernel_rfl) ?_ _
          go_wp2_with fail
          go_meet
          exact ⟨by first | rfl | simp, H10.out⟩
        case rest => as_aux_lemma =>
          obtain ⟨rfl, hb6⟩ := hcut
          have I6 : Hid (InS w wc P N0 (S + 1) S l 0 (i + 1) ah ap nh ch np cp ts m [⟨[], []⟩]) := ⟨I5.out.len, I5.out.g, I5.out.st.under hb6.out, I5.out.kp.below hb6.out⟩
          clear hb6 I5 l16 l16b
          go_wp2_with fail
          go_loopw [14, 15] (fun v14 v15 wx => ∃ j qn : Nat, j ≤ n' ∧ qn ≤ 16 ∧ v15 = .int .i64 j ∧ v14 = .int .i64 qn ∧ Hid (∃ r, InS w wx P N0 (S + 1) S l qn (i + 1 + j) ah ap nh ch np cp ts m r)) (fun _ v15 _ => n' - (intOf v15).toNat)
          case atStart => exact ⟨0, 0, Nat.zero_le _, Nat.zero_le _, rfl, rfl, _, I6.out⟩
          case round => as_aux_lemma =>
            obtain ⟨j, qn, hj, hqn, rfl, rfl, hI⟩ := hrel
            clear I6
            obtain ⟨r, hIr⟩ := hI.out
            have IR : Hid (InS w wr P N0 (S + 1) S l qn (i + 1 + j) ah ap nh ch np cp ts m r) := hIr
            clear hI hIr
            by_cases hlt : j < n'
            · have n1 : (j : Int) < (n' : Int) := by omega
              obtain ⟨x, hx⟩ : ∃ x, os'[j]? = some x := ⟨_, List.getElem?_eq_getElem (by rw [OPT.out.2.2]; exact hlt)⟩
              have hxm := List.mem_of_getElem? hx
              obtain ⟨b, off, ea, q0, q1, q2, q3, q4, q5⟩ := OPT.out.1 j x hx
              have XO : Hid (OpOk 1048576 x.o ∧ x.o.lab.size ≤ 281474976710656 ∧ NsAt w x.ea x.o.e) := ⟨OPT.out.2.1.o x hxm, OPT.out.2.1.l x hxm, q5⟩
              subst ea
              obtain ⟨ne, hne⟩ : ∃ ne, x.o.e.length = ne := ⟨_, rfl⟩
              obtain ⟨kk, hkk⟩ : ∃ kk, x.o.k = kk := ⟨_, rfl⟩
              have HKK : Hid (x.o.k = kk) := hkk
              rw [hne] at q4
              rw [hkk] at q0
              have CE : Hid (∀ W, Below w.heap.size w W → W.cell? ⟨b, off + j * 5, none⟩ = some (.int .i64 kk) ∧ W.cell? ⟨b, off + j * 5 + 1, none⟩ = some (.string x.o.lab) ∧ W.cell? ⟨b, off + j * 5 + 2, none⟩ = some (.int .i64 x.o.a) ∧ W.cell? ⟨b, off + j * 5 + 3, none⟩ = some (.int .i64 x.o.b) ∧ W.cell? ⟨b, off + j * 5 + 4, none⟩ = some (.slice x.ea ne x.ec)) := fun W hW => ⟨cell_under hW q0, cell_under hW q1, cell_under hW q2, cell_under hW q3, cell_under hW q4⟩
              clear q0 q1 q2 q3 q4 q5 hx hxm
              obtain ⟨q0, q1, q2, q3, q4⟩ := CE.out wr IR.out.st.b
              have SAY : Hid _ := says_rs IR.out.st (IR.out.g.ok (by omega) (by omega)) x XO.out.1 XO.out.2.1 XO.out.2.2
              rw [hne, hkk] at SAY
              have GS : Hid _ := IR.out.g.step x.o XO.out.1
              have SIN : Hid ((kk = 2 → qn ≠ 0) → ∃ r', sayL (l ++ r) x.o = l ++ r' ∧ ((kk = 1 ∧ sayE (l ++ r) x.o = 0 ∧ r'.length = r.length + 1) ∨ (kk = 2 ∧ sayE (l ++ r) x.o = 0 ∧ r'.length + 1 = r.length) ∨ (¬ (sayE (l ++ r) x.o = 0 ∧ (kk = 1 ∨ kk = 2)) ∧ r'.length = r.length))) := fun h => by
                have h1 := say_in l r x.o GL.out.n0 (by have := IR.out.len; omega) (fun e => by rw [HKK.out] at e; have h2 := h e; have h3 := IR.out.len; omega)
                rw [HKK.out] at h1
                exact h1
              have IU : Hid (InS w wr P N0 (S + 1) S l qn (i + 1 + (j + 1)) ah ap nh ch np cp ts m r) := ⟨IR.out.len, (by have h := IR.out.g.up; exact h), IR.out.st, IR.out.kp⟩
              clear hne hkk
              by_cases hsk : kk = 2 ∧ qn = 0
              · obtain ⟨e1, e2⟩ := hsk
                subst e1
                subst e2
                clear SAY GS SIN XO CE
                go_wp2
                exact ⟨⟨j + 1, 0, by omega, by omega, by go_num, rfl, r, IU.out⟩, by simp [intOf]; omega⟩
              · obtain ⟨r', hr1, hr2⟩ := SIN.out (fun e1 e2 => hsk ⟨e1, e2⟩)
                rw [hr1] at SAY GS
                generalize sayE (l ++ r) x.o = SE at SAY hr2
                have GS2 : Hid (Good (i + 1 + (j + 1)) 1048576 (l ++ r')) := GS.out
                clear SIN GS hr1 IU
                rcases hr2 with ⟨e1, e2, hr3⟩ | ⟨e1, e2, hr3⟩ | ⟨hno, hr3⟩
                · subst e1
                  subst e2
                  have LR : Hid (r'.length = qn + 2) := by show _ = _; rw [hr3, IR.out.len]
                  have hq2 : qn + 1 ≤ 16 := by have h1 := GS2.out.n1; rw [List.length_append, LR.out] at h1; have h2 := GL.out.n0; omega
                  clear hr3 hsk
                  go_wp2_with fail
                  refine Calls.mono SAY.out ?_
                  rintro e w6 ⟨rfl, hR6, hC6⟩
                  have R6 : Hid (RoundS w w6 P N0 (S + 1) (l ++ r')) := hR6
                  have K6 : Hid (KeepS N0 (S + 1) w6 l S ah ap nh ch np cp ts m) := IR.out.kp.kc hC6
                  have p0 := (CE.out w6 hR6.b).1
                  clear hR6 hC6 SAY q0 q1 q2 q3 q4
                  go_wp2
                  exact ⟨⟨j + 1, qn + 1, by omega, by omega, by go_num, by go_num, r', ⟨LR.out, GS2.out, R6.out, K6.out⟩⟩, by simp [intOf]; omega⟩
                · subst e1
                  subst e2
                  obtain ⟨qp, rfl⟩ : ∃ qp, qn = qp + 1 := ⟨qn - 1, by have h : qn ≠ 0 := fun e => hsk ⟨rfl, e⟩; omega⟩
                  have LR : Hid (r'.length = qp + 1) := by show _ = _; have h := IR.out.len; omega
                  have nz : ¬ (qp : Int) + 1 = 0 := by omega
                  have nz2 : ((qp : Int) + 1 == 0) = false := by simpa using nz
                  clear hr3 hsk
                  go_wp2_with fail
                  refine Calls.mono SAY.out ?_
                  rintro e w6 ⟨rfl, hR6, hC6⟩
                  have R6 : Hid (RoundS w w6 P N0 (S + 1) (l ++ r')) := hR6
                  have K6 : Hid (KeepS N0 (S + 1) w6 l S ah ap nh ch np cp ts m) := IR.out.kp.kc hC6
                  have p0 := (CE.out w6 hR6.b).1
                  clear hR6 hC6 SAY q0 q1 q2 q3 q4
                  go_wp2
                  exact ⟨⟨j + 1, qp, by omega, by omega, by go_num, by go_num, r', ⟨LR.out, GS2.out, R6.out, K6.out⟩⟩, by simp [intOf]; omega⟩
                · have LR : Hid (r'.length = qn + 1) := by show _ = _; rw [hr3, IR.out.len]
                  have HNO : Hid (¬ (SE = 0 ∧ (kk = 1 ∨ kk = 2))) := hno
                  clear hr3 hno
                  by_cases hk1 : kk = 1
                  · subst hk1
                    have s1 : ¬ SE = 0 := fun h => HNO.out ⟨h, .inl rfl⟩
                    have s2 : (SE == 0) = false := by simpa using s1
                    clear hsk
                    go_wp2_with fail
                    refine Calls.mono SAY.out ?_
                    rintro e w6 ⟨rfl, hR6, hC6⟩
                    have R6 : Hid (RoundS w w6 P N0 (S + 1) (l ++ r')) := hR6
                    have K6 : Hid (KeepS N0 (S + 1) w6 l S ah ap nh ch np cp ts m) := IR.out.kp.kc hC6
                    have p0 := (CE.out w6 hR6.b).1
                    clear hR6 hC6 SAY q0 q1 q2 q3 q4
                    go_wp2
                    exact ⟨⟨j + 1, qn, by omega, by omega, by go_num, rfl, r', ⟨LR.out, GS2.out, R6.out, K6.out⟩⟩, by simp [intOf]; omega⟩
                  · by_cases hk2 : kk = 2
                    · subst hk2
                      have s1 : ¬ SE = 0 := fun h => HNO.out ⟨h, .inr rfl⟩
                      have s2 : (SE == 0) = false := by simpa using s1
                      have nz : ¬ (qn : Int) = 0 := fun h => hsk ⟨rfl, by omega⟩
                      have nz2 : ((qn : Int) == 0) = false := by simpa using nz
                      clear hsk
                      go_wp2_with fail
                      refine Calls.mono SAY.out ?_
                      rintro e w6 ⟨rfl, hR6, hC6⟩
                      have R6 : Hid (RoundS w w6 P N0 (S + 1) (l ++ r')) := hR6
                      have K6 : Hid (KeepS N0 (S + 1) w6 l S ah ap nh ch np cp ts m) := IR.out.kp.kc hC6
                      have p0 := (CE.out w6 hR6.b).1
                      clear hR6 hC6 SAY q0 q1 q2 q3 q4
                      go_wp2
                      exact ⟨⟨j + 1, qn, by omega, by omega, by go_num, rfl, r', ⟨LR.out, GS2.out, R6.out, K6.out⟩⟩, by simp [intOf]; omega⟩
                    · have t1 : (kk == 1) = false := by simpa using hk1
                      have t2 : (kk == 2) = false := by simpa using hk2
                      clear hsk
                      go_wp2_with fail
                      refine Calls.mono SAY.out ?_
                      rintro e w6 ⟨rfl, hR6, hC6⟩
                      have R6 : Hid (RoundS w w6 P N0 (S + 1) (l ++ r')) := hR6
                      have K6 : Hid (KeepS N0 (S + 1) w6 l S ah ap nh ch np cp ts m) := IR.out.kp.kc hC6
                      have p0 := (CE.out w6 hR6.b).1
                      clear hR6 hC6 SAY q0 q1 q2 q3 q4
                      by_cases s1 : SE = 0
                      · subst s1
                        go_wp2
                        exact ⟨⟨j + 1, qn, by omega, by omega, by go_num, rfl, r', ⟨LR.out, GS2.out, R6.out, K6.out⟩⟩, by simp [intOf]; omega⟩
                      · have s2 : (SE == 0) = false := by simpa using s1
                        go_wp2
                        exact ⟨⟨j + 1, qn, by omega, by omega, by go_num, rfl, r', ⟨LR.out, GS2.out, R6.out, K6.out⟩⟩, by simp [intOf]; omega⟩
            · have n1 : ¬ (j : Int) < (n' : Int) := by omega
              have hjn : j = n' := by omega
              subst hjn
              obtain ⟨wm, hwm⟩ : ∃ wm, wm = wr := ⟨_, rfl⟩
              subst hwm
              clear hlt
              go_wp2_with fail
              clear n1
              go_loopw [14] (fun v14 wx => ∃ qn : Nat, qn ≤ 16 ∧ v14 = .int .i64 qn ∧ Hid (∃ r, InS w wx P N0 (S + 1) S l qn (i + 1 + j) ah ap nh ch np cp ts m r)) (fun v14 _ => (intOf v14).toNat)
              case atStart => exact ⟨qn, hqn, rfl, r, IR.out⟩
              case round => as_aux_lemma =>
                obtain ⟨q2, hq2, rfl, hI⟩ := hrel
                clear IR hqn
                obtain ⟨r2, hIr⟩ := hI.out
                have I2 : Hid (InS w wr P N0 (S + 1) S l q2 (i + 1 + j) ah ap nh ch np cp ts m r2) := hIr
                clear hI hIr
                by_cases hz : q2 = 0
                · subst hz
                  rw [show ((0 : Nat) : Int) = 0 from rfl]
                  obtain ⟨wn, hwn⟩ : ∃ wn, wn = wr := ⟨_, rfl⟩
                  subst hwn
                  have CLS : Hid (Calls Tryz.prog 25 #[.pointer (some ⟨P, 0, none⟩)] wn.drew (DeclR w P N0 (S + 1) wn.drew 0 l)) := by
                    have h := close_rs (I2.out.st.under (fr_below_drewN (Below.refl _ wn) 1)) I2.out.g.n0 (by have := I2.out.g.n1; omega)
                    have h1 := close_in l r2 GL.out.n0 (by have := I2.out.len; omega)
                    rw [h1.1, h1.2, show r2.length - 1 = 0 by have := I2.out.len; omega, List.take_zero, List.append_nil] at h
                    exact h
                  go_upto_region 35 with fail
                  go_cut [167] (fun v167 wx => v167 = .bool false ∧ Hid (RoundS w wx P N0 (S + 1) l ∧ KeepS N0 (S + 1) wx l S ah ap nh ch np cp ts m))
                  case first => as_aux_lemma =>
                    have K0 : Hid (KeepS N0 (S + 1) wn.drew l S ah ap nh ch np cp ts m) := I2.out.kp.below (fr_below_drewN (Below.refl _ _) 1)
                    refine wp_region_held_drew (S := fun w' => w'.cell? ⟨S, 0, none⟩ = some (.slice ah nh ch) ∧ w'.cell? ⟨S, 1, none⟩ = some (.slice ap np cp)) (by kernel_rfl) ?_ (fun hHeld => ?_)
                    · exact ⟨M.cell_whole K0.out.box 0, M.cell_whole K0.out.box 1⟩
                    refine wpAnyH_take (i := 0) (oi := { dst := some 151, op := Op.move (Operand.tmp 5), type := 25, pos := "outright.go:172", after := #[], guard := none }) (v := ?_) rfl (by kernel_rfl) (by kernel_rfl) (by kernel_rfl) (fun _ _ _ h => h) (Or.inl ⟨by rfl, ?_⟩) hHeld ?_
                    rotate_left
                    · (intro w hSw; (try dsimp only at hSw); go_simp; try with_reducible rfl)
                    try simp only [Act.put, List.setIfInBounds_toArray, List.set_cons_zero, List.set_cons_succ]
                    refine wpAnyH_ready (rs := [1]) (by kernel_rfl) (by simp) ?_
                    refine AllReadyH.cons (o := { dst := some 152, op := Op.call { callee := Callee.value (Operand.func 25), args := #[Operand.tmp 151], argTypes := #[25] }, type := 29, pos := "outright.go:172", after := #[{ on := 0, ground := Ground.data }], guard := none }) rfl (fun K hK => ?_) AllReadyH.nil
                    go_simp
                    go_at_call 25
                    refine Calls.mono CLS.out ?_
                    rintro e w6 ⟨rfl, hR6, hC6⟩
                    have R6 : Hid (RoundS w w6 P N0 (S + 1) l) := hR6
                    have K6 : Hid (KeepS N0 (S + 1) w6 l S ah ap nh ch np cp ts m) := K0.out.kc hC6
                    have DE : Hid _ := depth_st hR6.sta (by have := GL.out.n1; omega)
                    rw [HLD.out] at DE
                    have SCP : Hid _ := scope_law hR6.sta GL.out (by omega)
                    clear hR6 hC6 CLS
                    try go_wp2_with fail
                    refine hK.out _ _ ?_ (fun hHeld_1 => ?_)
                    · exact ⟨M.cell_whole K6.out.box 0, M.cell_whole K6.out.box 1⟩
                    clear hK K
                    try simp only [Act.put, List.setIfInBounds_toArray, List.set_cons_zero, List.set_cons_succ]
                    refine wpAnyH_ready (rs := [2]) (by kernel_rfl) (by simp) ?_
                    refine AllReadyH.cons (o := { dst := some 153, op := Op.call { callee := Callee.value (Operand.func 11), args := #[Operand.tmp 152], argTypes := #[29] }, type := 3, pos := "outright.go:172", after := #[{ on := 1, ground := Ground.data }, { on := 1, ground := Ground.chain }], guard := none }) rfl (fun K hK => ?_) AllReadyH.nil
                    go_simp
                    go_at_call 11
                    refine Calls.mono (NU.out _ _) ?_
                    rintro e wz ⟨rfl, hwz⟩
                    subst wz
                    try go_wp2_with fail
                    refine hK.out _ _ ?_ (fun hHeld_2 => ?_)
                    · exact ⟨M.cell_whole K6.out.box 0, M.cell_whole K6.out.box 1⟩
                    clear hK K
                    try simp only [Act.put, List.setIfInBounds_toArray, List.set_cons_zero, List.set_cons_succ]
                    refine wpAnyH_take (i := 3) (oi := { dst := some 154, op := Op.binOp BinOp.neq 3 (Operand.tmp 153) (Operand.const (Value.int IntKind.i64 0)) 3, type := 4, pos := "outright.go:172", after := #[{ on := 2, ground := Ground.data }], guard := none }) (v := ?_) rfl (by kernel_rfl) (by kernel_rfl) (by kernel_rfl) (fun _ _ _ h => h) (Or.inl ⟨by rfl, ?_⟩) hHeld_2 ?_
                    rotate_left
                    · (intro w hSw; (try dsimp only at hSw); go_simp; try with_reducible rfl)
                    try simp only [Act.put, List.setIfInBounds_toArray, List.set_cons_zero, List.set_cons_succ]
                    refine wpAnyH_take (i := 4) (oi := { dst := some 155, op := Op.move (Operand.tmp 154), type := 4, pos := "outright.go:172", after := #[{ on := 3, ground := Ground.data }, { on := 2, ground := Ground.chain }], guard := none }) (v := ?_) rfl (by kernel_rfl) (by kernel_rfl) (by kernel_rfl) (fun _ _ _ h => h) (Or.inl ⟨by rfl, ?_⟩) hHeld_2 ?_
                    rotate_left
                    · (intro w hSw; (try dsimp only at hSw); go_simp; try with_reducible rfl)
                    try simp only [Act.put, List.setIfInBounds_toArray, List.set_cons_zero, List.set_cons_succ]
                    refine wpAnyH_take (i := 5) (oi := { dst := some 156, op := Op.move (Operand.tmp 5), type := 25, pos := "outright.go:172", after := #[{ on := 4, ground := Ground.guard }], guard := some (4, false) }) (v := ?_) rfl (by kernel_rfl) (by kernel_rfl) (by kernel_rfl) (fun _ _ _ h => h) (Or.inl ⟨by rfl, ?_⟩) hHeld_2 ?_
                    rotate_left
                    · (intro w hSw; (try dsimp only at hSw); go_simp; try with_reducible rfl)
                    try simp only [Act.put, List.setIfInBounds_toArray, List.set_cons_zero, List.set_cons_succ]
                    refine wpAnyH_take (i := 7) (oi := { dst := some 158, op := Op.move (Operand.tmp 12), type := 3, pos := "outright.go:172", after := #[{ on := 4, ground := Ground.guard }], guard := some (4, false) }) (v := ?_) rfl (by kernel_rfl) (by kernel_rfl) (by kernel_rfl) (fun _ _ _ h => h) (Or.inl ⟨by rfl, ?_⟩) hHeld_2 ?_
                    rotate_left
                    · (intro w hSw; (try dsimp only at hSw); go_simp; try with_reducible rfl)
                    try simp only [Act.put, List.setIfInBounds_toArray, List.set_cons_zero, List.set_cons_succ]
                    refine wpAnyH_ready (rs := [6]) (by kernel_rfl) (by simp) ?_
                    refine AllReadyH.cons (o := { dst := some 157, op := Op.call { callee := Callee.value (Operand.func 13), args := #[Operand.tmp 156], argTypes := #[25] }, type := 3, pos := "outright.go:172", after := #[{ on := 5, ground := Ground.data }, { on := 4, ground := Ground.chain }, { on := 4, ground := Ground.guard }], guard := some (4, false) }) rfl (fun K hK => ?_) AllReadyH.nil
                    go_simp
                    go_at_call 13
                    refine Calls.mono DE.out ?_
                    rintro e wz ⟨rfl, hwz⟩
                    subst wz
                    try go_wp2_with fail
                    refine hK.out _ _ ?_ (fun hHeld_6 => ?_)
                    · exact ⟨M.cell_whole K6.out.box 0, M.cell_whole K6.out.box 1⟩
                    clear hK K
                    try simp only [Act.put, List.setIfInBounds_toArray, List.set_cons_zero, List.set_cons_succ]
                    refine wpAnyH_take (i := 8) (oi := { dst := some 159, op := Op.binOp BinOp.neq 3 (Operand.tmp 157) (Operand.tmp 158) 3, type := 4, pos := "outright.go:172", after := #[{ on := 6, ground := Ground.data }, { on := 7, ground := Ground.data }, { on := 4, ground := Ground.guard }], guard := some (4, false) }) (v := ?_) rfl (by kernel_rfl) (by kernel_rfl) (by kernel_rfl) (fun _ _ _ h => h) (Or.inl ⟨by rfl, ?_⟩) hHeld_6 ?_
                    rotate_left
                    · (intro w hSw; (try dsimp only at hSw); go_simp; try with_reducible rfl)
                    try simp only [Act.put, List.setIfInBounds_toArray, List.set_cons_zero, List.set_cons_succ]
                    refine wpAnyH_take (i := 9) (oi := { dst := some 160, op := Op.pick (Operand.tmp 155) (Operand.const (Value.bool true)) (Operand.tmp 159), type := 4, pos := "outright.go:172", after := #[{ on := 4, ground := Ground.data }, { on := 8, ground := Ground.data }], guard := none }) (v := ?_) rfl (by kernel_rfl) (by kernel_rfl) (by kernel_rfl) (fun _ _ _ h => h) (Or.inl ⟨by rfl, ?_⟩) hHeld_6 ?_
                    rotate_left
                    · (intro w hSw; (try dsimp only at hSw); go_simp; try with_reducible rfl)
                    try simp only [Act.put, List.setIfInBounds_toArray, List.set_cons_zero, List.set_cons_succ]
                    refine wpAnyH_take (i := 10) (oi := { dst := some 161, op := Op.move (Operand.tmp 160), type := 4, pos := "outright.go:172", after := #[{ on := 9, ground := Ground.data }, { on := 6, ground := Ground.chain }], guard := none }) (v := ?_) rfl (by kernel_rfl) (by kernel_rfl) (by kernel_rfl) (fun _ _ _ h => h) (Or.inl ⟨by rfl, ?_⟩) hHeld_6 ?_
                    rotate_left
                    · (intro w hSw; (try dsimp only at hSw); go_simp; try with_reducible rfl)
                    try simp only [Act.put, List.setIfInBounds_toArray, List.set_cons_zero, List.set_cons_succ]
                    refine wpAnyH_take (i := 11) (oi := { dst := some 162, op := Op.move (Operand.tmp 5), type := 25, pos := "outright.go:172", after := #[{ on := 10, ground := Ground.guard }], guard := some (10, false) }) (v := ?_) rfl (by kernel_rfl) (by kernel_rfl) (by kernel_rfl) (fun _ _ _ h => h) (Or.inl ⟨by rfl, ?_⟩) hHeld_6 ?_
                    rotate_left
                    · (intro w hSw; (try dsimp only at hSw); go_simp; try with_reducible rfl)
                    try simp only [Act.put, List.setIfInBounds_toArray, List.set_cons_zero, List.set_cons_succ]
                    refine wpAnyH_take (i := 13) (oi := { dst := some 164, op := Op.load 37 (Operand.tmp 11), type := 37, pos := "outright.go:172", after := #[{ on := 10, ground := Ground.guard }], guard := some (10, false) }) (v := ?_) rfl (by kernel_rfl) (by kernel_rfl) (by kernel_rfl) (fun _ _ _ h => h) (Or.inl ⟨by rfl, ?_⟩) hHeld_6 ?_
                    rotate_left
                    · (intro w hSw; (try dsimp only at hSw); go_simp; try with_reducible rfl)
                    try simp only [Act.put, List.setIfInBounds_toArray, List.set_cons_zero, List.set_cons_succ]
                    refine wpAnyH_ready (rs := [12]) (by kernel_rfl) (by simp) ?_
                    refine AllReadyH.cons (o := { dst := some 163, op := Op.call { callee := Callee.value (Operand.func 15), args := #[Operand.tmp 162], argTypes := #[25] }, type := 37, pos := "outright.go:172", after := #[{ on := 11, ground := Ground.data }, { on := 10, ground := Ground.chain }, { on := 10, ground := Ground.guard }], guard := some (10, false) }) rfl (fun K hK => ?_) AllReadyH.nil
                    go_simp
                    go_at_call 15
                    refine Calls.mono SCP.out ?_
                    rintro e w9 ⟨hb9, a9, n9, c9, p9, k9, d9, ts9, m9, rfl, hs9⟩
                    have H9 : Hid (Below w6.heap.size w6 w9) := hb9
                    have SAM : Hid _ := same_told GL.out (by omega) hs9 (K6.out.below hb9).told c9 d9 ch cp
                    clear hb9 hs9 SCP
                    try go_wp2_with fail
                    refine hK.out _ _ ?_ (fun hHeld_12 => ?_)
                    · exact ⟨M.cell_whole (K6.out.below H9.out).box 0, M.cell_whole (K6.out.below H9.out).box 1⟩
                    clear hK K
                    try simp only [Act.put, List.setIfInBounds_toArray, List.set_cons_zero, List.set_cons_succ]
                    refine wpAnyH_ready (rs := [14]) (by kernel_rfl) (by simp) ?_
                    refine AllReadyH.cons (o := { dst := some 165, op := Op.call { callee := Callee.value (Operand.func 19), args := #[Operand.tmp 163, Operand.tmp 164], argTypes := #[37, 37] }, type := 4, pos := "outright.go:172", after := #[{ on := 12, ground := Ground.data }, { on := 13, ground := Ground.data }, { on := 12, ground := Ground.chain }, { on := 10, ground := Ground.guard }], guard := some (10, false) }) rfl (fun K hK => ?_) AllReadyH.nil
                    go_simp
                    go_at_call 19
                    refine Calls.mono SAM.out ?_
                    rintro e w10 ⟨rfl, hb10⟩
                    have H10 : Hid (Below w6.heap.size w6 w10) := H9.out.trans (hb10.mono H9.out.size)
                    clear hb10 SAM
                    try go_wp2_with fail
                    refine hK.out _ _ ?_ (fun hHeld_14 => ?_)
                    · exact ⟨M.cell_whole (K6.out.below H10.out).box 0, M.cell_whole (K6.out.below H10.out).box 1⟩
                    clear hK K
                    try simp only [Act.put, List.setIfInBounds_toArray, List.set_cons_zero, List.set_cons_succ]
                    refine wpAnyH_take (i := 15) (oi := { dst := some 166, op := Op.unOp UnOp.not 4 (Operand.tmp 165), type := 4, pos := "outright.go:172", after := #[{ on := 14, ground := Ground.data }, { on := 10, ground := Ground.guard }], guard := some (10, false) }) (v := ?_) rfl (by kernel_rfl) (by kernel_rfl) (by kernel_rfl) (fun _ _ _ h => h) (Or.inl ⟨by rfl, ?_⟩) hHeld_14 ?_
                    rotate_left
                    · (intro w hSw; (try dsimp only at hSw); go_simp; try with_reducible rfl)
                    try simp only [Act.put, List.setIfInBounds_toArray, List.set_cons_zero, List.set_cons_succ]
                    refine wpAnyH_take (i := 16) (oi := { dst := some 167, op := Op.pick (Operand.tmp 161) (Operand.const (Value.bool true)) (Operand.tmp 166), type := 4, pos := "outright.go:172", after := #[{ on := 10, ground := Ground.data }, { on := 15, ground := Ground.data }], guard := none }) (v := ?_) rfl (by kernel_rfl) (by kernel_rfl) (by kernel_rfl) (fun _ _ _ h => h) (Or.inl ⟨by rfl, ?_⟩) hHeld_14 ?_
                    rotate_left
                    · (intro w hSw; (try dsimp only at hSw); go_simp; try with_reducible rfl)
                    try simp only [Act.put, List.setIfInBounds_toArray, List.set_cons_zero, List.set_cons_succ]
                    refine wpAnyH_done (by kernel_rfl) ?_ _
                    go_wp2_with fail
                    go_meet
                    exact ⟨by first | rfl | simp, R6.out.under H10.out, K6.out.below H10.out⟩
                  case rest => as_aux_lemma =>
                    obtain ⟨rfl, hcc⟩ := hcut
                    obtain ⟨w9, hw9⟩ : ∃ w9, w9 = wc := ⟨_, rfl⟩
                    subst hw9
                    have R9 : Hid (RoundS w w9 P N0 (S + 1) l) := hcc.out.1
                    have K9 : Hid (KeepS N0 (S + 1) w9 l S ah ap nh ch np cp ts m) := hcc.out.2
                    clear hcc I2 CLS
                    go_wp2_with fail
                    go_loopw [18] (fun v18 wx => ∃ k : Nat, k ≤ j ∧ v18 = .int .i64 k ∧ Hid (Below w9.heap.size w9 wx)) (fun v18 _ => j - (intOf v18).toNat)
                    case atStart => exact ⟨0, Nat.zero_le _, rfl, Below.refl _ _⟩
                    case round => as_aux_lemma =>
                      obtain ⟨k, hk, rfl, hB⟩ := hrel
                      by_cases hlt : k < j
                      · have n1 : (k : Int) < (j : Int) := by omega
                        obtain ⟨x, hx⟩ : ∃ x, os'[k]? = some x := ⟨_, List.getElem?_eq_getElem (by rw [OPT.out.2.2]; exact hlt)⟩
                        have hxm := List.mem_of_getElem? hx
                        obtain ⟨b, off, ea, q0, q1, q2, q3, q4, q5⟩ := OPT.out.1 k x hx
                        subst ea
                        obtain ⟨goal, hgo⟩ : ∃ goal, x.o.e = goal := ⟨_, rfl⟩
                        obtain ⟨ne, hne⟩ : ∃ ne, goal.length = ne := ⟨_, rfl⟩
                        rw [hgo] at q4 q5
                        rw [hne] at q4
                        have GO : Hid (goal.length = ne ∧ ne ≤ 1048576 ∧ NsAt w x.ea goal ∧ ∀ v ∈ goal, wfN v) := ⟨hne, by have h := (OPT.out.2.1.o x hxm).n; rw [hgo, hne] at h; exact h, q5, by rw [← hgo]; exact (OPT.out.2.1.o x hxm).e⟩
                        have CE : Hid (∀ W, Below w.heap.size w W → W.cell? ⟨b, off + k * 5 + 4, none⟩ = some (.slice x.ea ne x.ec)) := fun W hW => cell_under hW q4
                        clear q0 q1 q2 q3 q4 q5 hx hxm hgo hne
                        have q4 := CE.out wr (R9.out.under hB.out).b
                        have FRA : Hid _ := frame_law (R9.out.sta.below hB.out) GL.out (by omega) K9.out.nm x.ea ne x.ec goal GO.out.1 GO.out.2.1 (GO.out.2.2.1.under (R9.out.under hB.out).b) GO.out.2.2.2
                        go_wp2_with fail
                        refine Calls.mono FRA.out ?_
                        rintro e w6 ⟨hb6, fh, fn, fc, fp, fk, fd, fg, fz, ff, us, rfl, hf1, hf2⟩
                        obtain ⟨w7, hw7⟩ : ∃ w7, w7 = w6.alloc (.cells #[.slice fh fn fc, .slice fp fk fd, .slice fg fz ff] 47) := ⟨_, rfl⟩
                        obtain ⟨F, hF⟩ : ∃ F, w6.heap.size = F := ⟨_, rfl⟩
                        have HW7 : Hid (w7 = w6.alloc (.cells #[.slice fh fn fc, .slice fp fk fd, .slice fg fz ff] 47)) := hw7
                        have HF : Hid (w6.heap.size = F) := hF
                        have b7 : Below w6.heap.size w6 w7 := by rw [hw7]; exact fr_below_alloc _ _
                        have k7 : w7.heap[F]? = some (.cells #[.slice fh fn fc, .slice fp fk fd, .slice fg fz ff] 47 (0, 0)) := by rw [hw7, ← hF]; exact heap_alloc_new w6 _
                        have b97 : Below w9.heap.size w9 w7 := (hB.out.trans (hb6.mono hB.out.size)).trans (b7.mono (Nat.le_trans hB.out.size hb6.size))
                        have B97 : Hid (Below w9.heap.size w9 w7) := b97
                        have R7 : Hid (RoundS w w7 P N0 (S + 1) l) := R9.out.under b97
                        have K7 : Hid (KeepS N0 (S + 1) w7 l S ah ap nh ch np cp ts m ∧ w7.heap[F]? = some (.cells #[.slice fh fn fc, .slice fp fk fd, .slice fg fz ff] 47 (0, 0))) := ⟨K9.out.below b97, k7⟩
                        have SL7 : Hid (ScopeL w7 l ah ap nh np ts m) := (K9.out.below b97).told
                        obtain ⟨EC, hEC⟩ : ∃ EC, mayF (hypsA l) goal = EC := ⟨_, rfl⟩
                        have HEC : Hid (mayF (hypsA l) goal = EC) := hEC
                        rw [hEC] at hf1 hf2 ⊢
                        have FL : Hid (EC = 0 → FrameL w7 l m goal fh fp fg fn fk fz us) := fun h => (hf1 h).under b7
                        have FEW : Hid (nh ≤ 1048576 ∧ np ≤ 1048576 ∧ ∀ y ∈ ts, y.h.ex.length ≤ 17592186043904) := SL7.out.few GL.out (by omega)
                        clear hw7 hF b7 k7 b97 hb6 FRA hf1 hf2 hEC q4
                        go_upto_region 41 with fail
                        rw [← HW7.out, HF.out]
                        clear HW7 HF
                        have CL : Hid (∀ W, Below w7.heap.size w7 W → (W.cell? ⟨S, 0, none⟩ = some (.slice ah nh ch) ∧ W.cell? ⟨S, 1, none⟩ = some (.slice ap np cp)) ∧ W.cell? ⟨b, off + k * 5 + 4, none⟩ = some (.slice x.ea ne x.ec) ∧ W.cell? ⟨F, 0, none⟩ = some (.slice fh fn fc) ∧ W.cell? ⟨F, 1, none⟩ = some (.slice fp fk fd) ∧ W.cell? ⟨F, 2, none⟩ = some (.slice fg fz ff)) := fun W hW => by
                          have h1 := (K7.out.1.below hW).box
                          have h2 := (hW.block F (Array.getElem?_eq_some_iff.1 K7.out.2).1).trans K7.out.2
                          exact ⟨⟨M.cell_whole h1 0, M.cell_whole h1 1⟩, CE.out W (R7.out.under hW).b, M.cell_whole h2 0, M.cell_whole h2 1, M.cell_whole h2 2⟩
                        have MAY : Hid (∀ W, Below w7.heap.size w7 W → Calls Tryz.prog 21 #[.agg #[.slice ah nh ch, .slice ap np cp], .slice x.ea ne x.ec] W fun e w' => e = .returned (.int .i64 EC) ∧ Below W.heap.size W w') := fun W hW => by
                          have h1 := may_any W ah ap x.ea nh np ne ch cp x.ec ts goal SL7.out.n FEW.out.1 (SL7.out.ha.under hW) GO.out.1 (by have := GO.out.2.1; omega) (GO.out.2.2.1.under (R7.out.under hW).b)
                          rw [SL7.out.h, HEC.out] at h1
                          exact h1
                        clear CE K7
                        go_cut [210] (fun v210 wx => v210 = .bool false ∧ Hid (Below w7.heap.size w7 wx))
                        case first => as_aux_lemma =>
                          have H0 : Hid (Below w7.heap.size w7 w7.drew) := fr_below_drewN (Below.refl _ _) 1
                          by_cases hE : EC = 0
                          · subst hE
                            have FF : Hid (FrameL w7 l m goal fh fp fg fn fk fz us) := FL.out rfl
                            refine wp_region_held_drew (S := fun w' => (w'.cell? ⟨S, 0, none⟩ = some (.slice ah nh ch) ∧ w'.cell? ⟨S, 1, none⟩ = some (.slice ap np cp)) ∧ w'.cell? ⟨b, off + k * 5 + 4, none⟩ = some (.slice x.ea ne x.ec) ∧ w'.cell? ⟨F, 0, none⟩ = some (.slice fh fn fc) ∧ w'.cell? ⟨F, 1, none⟩ = some (.slice fp fk fd) ∧ w'.cell? ⟨F, 2, none⟩ = some (.slice fg fz ff)) (by kernel_rfl) ?_ (fun hHeld => ?_)
                            · exact CL.out _ H0.out
                            refine wpAnyH_take (i := 0) (oi := { dst := some 184, op := Op.move (Operand.tmp 20), type := 29, pos := "outright.go:177", after := #[], guard := none }) (v := ?_) rfl (by kernel_rfl) (by kernel_rfl) (by kernel_rfl) (fun _ _ _ h => h) (Or.inl ⟨by rfl, ?_⟩) hHeld ?_
                            rotate_left
                            · (intro w hSw; (try dsimp only at hSw); go_simp; try with_reducible rfl)
                            try simp only [Act.put, List.setIfInBounds_toArray, List.set_cons_zero, List.set_cons_succ]
                            refine wpAnyH_take (i := 2) (oi := { dst := some 186, op := Op.load 37 (Operand.tmp 11), type := 37, pos := "outright.go:177", after := #[], guard := none }) (v := ?_) rfl (by kernel_rfl) (by kernel_rfl) (by kernel_rfl) (fun _ _ _ h => h) (Or.inl ⟨by rfl, ?_⟩) hHeld ?_
                            rotate_left
                            · (intro w hSw; (try dsimp only at hSw); go_simp; try with_reducible rfl)
                            try simp only [Act.put, List.setIfInBounds_toArray, List.set_cons_zero, List.set_cons_succ]
                            refine wpAnyH_take (i := 3) (oi := { dst := some 187, op := Op.move (Operand.tmp 1), type := 40, pos := "outright.go:177", after := #[], guard := none }) (v := ?_) rfl (by kernel_rfl) (by kernel_rfl) (by kernel_rfl) (fun _ _ _ h => h) (Or.inl ⟨by rfl, ?_⟩) hHeld ?_
                            rotate_left
                            · (intro w hSw; (try dsimp only at hSw); go_simp; try with_reducible rfl)
                            try simp only [Act.put, List.setIfInBounds_toArray, List.set_cons_zero, List.set_cons_succ]
                            refine wpAnyH_take (i := 4) (oi := { dst := some 188, op := Op.move (Operand.tmp 18), type := 3, pos := "outright.go:177", after := #[], guard := none }) (v := ?_) rfl (by kernel_rfl) (by kernel_rfl) (by kernel_rfl) (fun _ _ _ h => h) (Or.inl ⟨by rfl, ?_⟩) hHeld ?_
                            rotate_left
                            · (intro w hSw; (try dsimp only at hSw); go_simp; try with_reducible rfl)
                            try simp only [Act.put, List.setIfInBounds_toArray, List.set_cons_zero, List.set_cons_succ]
                            refine wpAnyH_take (i := 5) (oi := { dst := some 189, op := Op.indexAddr 40 (Operand.tmp 187) (Operand.tmp 188), type := 0, pos := "outright.go:177", after := #[{ on := 3, ground := Ground.data }, { on := 4, ground := Ground.data }], guard := none }) (v := ?_) rfl (by kernel_rfl) (by kernel_rfl) (by kernel_rfl) (fun _ _ _ h => h) (Or.inl ⟨by rfl, ?_⟩) hHeld ?_
                            rotate_left
                            · (intro w hSw; (try dsimp only at hSw); go_simp; try with_reducible rfl)
                            try simp only [Act.put, List.setIfInBounds_toArray, List.set_cons_zero, List.set_cons_succ]
                            refine wpAnyH_take (i := 6) (oi := { dst := some 190, op := Op.fieldAddr 45 (Operand.tmp 189) 4, type := 0, pos := "outright.go:177", after := #[{ on := 5, ground := Ground.data }], guard := none }) (v := ?_) rfl (by kernel_rfl) (by kernel_rfl) (by kernel_rfl) (fun _ _ _ h => h) (Or.inl ⟨by rfl, ?_⟩) hHeld ?_
                            rotate_left
                            · (intro w hSw; (try dsimp only at hSw); go_simp; try with_reducible rfl)
                            try simp only [Act.put, List.setIfInBounds_toArray, List.set_cons_zero, List.set_cons_succ]
                            refine wpAnyH_take (i := 7) (oi := { dst := some 191, op := Op.load 32 (Operand.tmp 190), type := 32, pos := "outright.go:177", after := #[{ on := 6, ground := Ground.data }], guard := none }) (v := ?_) rfl (by kernel_rfl) (by kernel_rfl) (by kernel_rfl) (fun _ _ _ h => h) (Or.inl ⟨by rfl, ?_⟩) hHeld ?_
                            rotate_left
                            · (intro w hSw; (try dsimp only at hSw); go_simp; try with_reducible rfl)
                            try simp only [Act.put, List.setIfInBounds_toArray, List.set_cons_zero, List.set_cons_succ]
                            refine wpAnyH_ready (rs := [1]) (by kernel_rfl) (by simp) ?_
                            refine AllReadyH.cons (o := { dst := some 185, op := Op.call { callee := Callee.value (Operand.func 11), args := #[Operand.tmp 184], argTypes := #[29] }, type := 3, pos := "outright.go:177", after := #[{ on := 0, ground := Ground.data }], guard := none }) rfl (fun K hK => ?_) AllReadyH.nil
                            go_simp
                            go_at_call 11
                            refine Calls.mono (NU.out _ _) ?_
                            rintro e wz ⟨rfl, hwz⟩
                            subst wz
                            try go_wp2_with fail
                            refine hK.out _ _ ?_ (fun hHeld_1 => ?_)
                            · exact CL.out _ H0.out
                            clear hK K
                            try simp only [Act.put, List.setIfInBounds_toArray, List.set_cons_zero, List.set_cons_succ]
                            refine wpAnyH_ready (rs := [8]) (by kernel_rfl) (by simp) ?_
                            refine AllReadyH.cons (o := { dst := some 192, op := Op.call { callee := Callee.value (Operand.func 21), args := #[Operand.tmp 186, Operand.tmp 191], argTypes := #[37, 32] }, type := 3, pos := "outright.go:177", after := #[{ on := 2, ground := Ground.data }, { on := 7, ground := Ground.data }, { on := 1, ground := Ground.chain }], guard := none }) rfl (fun K hK => ?_) AllReadyH.nil
                            go_simp
                            go_at_call 21
                            refine Calls.mono (MAY.out _ H0.out) ?_
                            rintro e w8 ⟨rfl, hb8⟩
                            have H8 : Hid (Below w7.heap.size w7 w8) := H0.out.trans (hb8.mono H0.out.size)
                            clear hb8
                            try go_wp2_with fail
                            refine hK.out _ _ ?_ (fun hHeld_8 => ?_)
                            · exact CL.out _ H8.out
                            clear hK K
                            try simp only [Act.put, List.setIfInBounds_toArray, List.set_cons_zero, List.set_cons_succ]
                            refine wpAnyH_take (i := 9) (oi := { dst := some 193, op := Op.binOp BinOp.neq 3 (Operand.tmp 185) (Operand.tmp 192) 3, type := 4, pos := "outright.go:177", after := #[{ on := 1, ground := Ground.data }, { on := 8, ground := Ground.data }], guard := none }) (v := ?_) rfl (by kernel_rfl) (by kernel_rfl) (by kernel_rfl) (fun _ _ _ h => h) (Or.inl ⟨by rfl, ?_⟩) hHeld_8 ?_
                            rotate_left
                            · (intro w hSw; (try dsimp only at hSw); go_simp; try with_reducible rfl)
                            try simp only [Act.put, List.setIfInBounds_toArray, List.set_cons_zero, List.set_cons_succ]
                            refine wpAnyH_take (i := 10) (oi := { dst := some 194, op := Op.move (Operand.tmp 193), type := 4, pos := "outright.go:177", after := #[{ on := 9, ground := Ground.data }, { on := 8, ground := Ground.chain }], guard := none }) (v := ?_) rfl (by kernel_rfl) (by kernel_rfl) (by kernel_rfl) (fun _ _ _ h => h) (Or.inl ⟨by rfl, ?_⟩) hHeld_8 ?_
                            rotate_left
                            · (intro w hSw; (try dsimp only at hSw); go_simp; try with_reducible rfl)
                            try simp only [Act.put, List.setIfInBounds_toArray, List.set_cons_zero, List.set_cons_succ]
                            refine wpAnyH_take (i := 11) (oi := { dst := some 195, op := Op.move (Operand.tmp 20), type := 29, pos := "outright.go:177", after := #[{ on := 10, ground := Ground.guard }], guard := some (10, false) }) (v := ?_) rfl (by kernel_rfl) (by kernel_rfl) (by kernel_rfl) (fun _ _ _ h => h) (Or.inl ⟨by rfl, ?_⟩) hHeld_8 ?_
                            rotate_left
                            · (intro w hSw; (try dsimp only at hSw); go_simp; try with_reducible rfl)
                            try simp only [Act.put, List.setIfInBounds_toArray, List.set_cons_zero, List.set_cons_succ]
                            refine wpAnyH_ready (rs := [12]) (by kernel_rfl) (by simp) ?_
                            refine AllReadyH.cons (o := { dst := some 196, op := Op.call { callee := Callee.value (Operand.func 11), args := #[Operand.tmp 195], argTypes := #[29] }, type := 3, pos := "outright.go:177", after := #[{ on := 11, ground := Ground.data }, { on := 10, ground := Ground.chain }, { on := 10, ground := Ground.guard }], guard := some (10, false) }) rfl (fun K hK => ?_) AllReadyH.nil
                            go_simp
                            go_at_call 11
                            refine Calls.mono (NU.out _ _) ?_
                            rintro e wz ⟨rfl, hwz⟩
                            subst wz
                            try go_wp2_with fail
                            refine hK.out _ _ ?_ (fun hHeld_12 => ?_)
                            · exact CL.out _ H8.out
                            clear hK K
                            try simp only [Act.put, List.setIfInBounds_toArray, List.set_cons_zero, List.set_cons_succ]
                            refine wpAnyH_take (i := 13) (oi := { dst := some 197, op := Op.binOp BinOp.eql 3 (Operand.tmp 196) (Operand.const (Value.int IntKind.i64 0)) 3, type := 4, pos := "outright.go:177", after := #[{ on := 12, ground := Ground.data }, { on := 10, ground := Ground.guard }], guard := some (10, false) }) (v := ?_) rfl (by kernel_rfl) (by kernel_rfl) (by kernel_rfl) (fun _ _ _ h => h) (Or.inl ⟨by rfl, ?_⟩) hHeld_12 ?_
                            rotate_left
                            · (intro w hSw; (try dsimp only at hSw); go_simp; try with_reducible rfl)
                            try simp only [Act.put, List.setIfInBounds_toArray, List.set_cons_zero, List.set_cons_succ]
                            refine wpAnyH_take (i := 14) (oi := { dst := some 198, op := Op.move (Operand.tmp 197), type := 4, pos := "outright.go:177", after := #[{ on := 13, ground := Ground.data }, { on := 12, ground := Ground.chain }, { on := 10, ground := Ground.guard }], guard := some (10, false) }) (v := ?_) rfl (by kernel_rfl) (by kernel_rfl) (by kernel_rfl) (fun _ _ _ h => h) (Or.inl ⟨by rfl, ?_⟩) hHeld_12 ?_
                            rotate_left
                            · (intro w hSw; (try dsimp only at hSw); go_simp; try with_reducible rfl)
                            try simp only [Act.put, List.setIfInBounds_toArray, List.set_cons_zero, List.set_cons_succ]
                            refine wpAnyH_take (i := 15) (oi := { dst := some 199, op := Op.load 47 (Operand.tmp 19), type := 47, pos := "outright.go:177", after := #[{ on := 14, ground := Ground.guard }], guard := some (14, true) }) (v := ?_) rfl (by kernel_rfl) (by kernel_rfl) (by kernel_rfl) (fun _ _ _ h => h) (Or.inl ⟨by rfl, ?_⟩) hHeld_12 ?_
                            rotate_left
                            · (intro w hSw; (try dsimp only at hSw); go_simp; try with_reducible rfl)
                            try simp only [Act.put, List.setIfInBounds_toArray, List.set_cons_zero, List.set_cons_succ]
                            refine wpAnyH_take (i := 16) (oi := { dst := some 200, op := Op.load 37 (Operand.tmp 11), type := 37, pos := "outright.go:177", after := #[{ on := 14, ground := Ground.guard }], guard := some (14, true) }) (v := ?_) rfl (by kernel_rfl) (by kernel_rfl) (by kernel_rfl) (fun _ _ _ h => h) (Or.inl ⟨by rfl, ?_⟩) hHeld_12 ?_
                            rotate_left
                            · (intro w hSw; (try dsimp only at hSw); go_simp; try with_reducible rfl)
                            try simp only [Act.put, List.setIfInBounds_toArray, List.set_cons_zero, List.set_cons_succ]
                            refine wpAnyH_take (i := 17) (oi := { dst := some 201, op := Op.move (Operand.tmp 1), type := 40, pos := "outright.go:177", after := #[{ on := 14, ground := Ground.guard }], guard := some (14, true) }) (v := ?_) rfl (by kernel_rfl) (by kernel_rfl) (by kernel_rfl) (fun _ _ _ h => h) (Or.inl ⟨by rfl, ?_⟩) hHeld_12 ?_
                            rotate_left
                            · (intro w hSw; (try dsimp only at hSw); go_simp; try with_reducible rfl)
                            try simp only [Act.put, List.setIfInBounds_toArray, List.set_cons_zero, List.set_cons_succ]
                            refine wpAnyH_take (i := 18) (oi := { dst := some 202, op := Op.move (Operand.tmp 18), type := 3, pos := "outright.go:177", after := #[{ on := 14, ground := Ground.guard }], guard := some (14, true) }) (v := ?_) rfl (by kernel_rfl) (by kernel_rfl) (by kernel_rfl) (fun _ _ _ h => h) (Or.inl ⟨by rfl, ?_⟩) hHeld_12 ?_
                            rotate_left
                            · (intro w hSw; (try dsimp only at hSw); go_simp; try with_reducible rfl)
                            try simp only [Act.put, List.setIfInBounds_toArray, List.set_cons_zero, List.set_cons_succ]
                            refine wpAnyH_take (i := 19) (oi := { dst := some 203, op := Op.indexAddr 40 (Operand.tmp 201) (Operand.tmp 202), type := 0, pos := "outright.go:177", after := #[{ on := 17, ground := Ground.data }, { on := 18, ground := Ground.data }, { on := 14, ground := Ground.guard }], guard := some (14, true) }) (v := ?_) rfl (by kernel_rfl) (by kernel_rfl) (by kernel_rfl) (fun _ _ _ h => h) (Or.inl ⟨by rfl, ?_⟩) hHeld_12 ?_
                            rotate_left
                            · (intro w hSw; (try dsimp only at hSw); go_simp; try with_reducible rfl)
                            try simp only [Act.put, List.setIfInBounds_toArray, List.set_cons_zero, List.set_cons_succ]
                            refine wpAnyH_take (i := 20) (oi := { dst := some 204, op := Op.fieldAddr 45 (Operand.tmp 203) 4, type := 0, pos := "outright.go:177", after := #[{ on := 19, ground := Ground.data }, { on := 14, ground := Ground.guard }], guard := some (14, true) }) (v := ?_) rfl (by kernel_rfl) (by kernel_rfl) (by kernel_rfl) (fun _ _ _ h => h) (Or.inl ⟨by rfl, ?_⟩) hHeld_12 ?_
                            rotate_left
                            · (intro w hSw; (try dsimp only at hSw); go_simp; try with_reducible rfl)
                            try simp only [Act.put, List.setIfInBounds_toArray, List.set_cons_zero, List.set_cons_succ]
                            refine wpAnyH_take (i := 21) (oi := { dst := some 205, op := Op.load 32 (Operand.tmp 204), type := 32, pos := "outright.go:177", after := #[{ on := 20, ground := Ground.data }, { on := 14, ground := Ground.guard }], guard := some (14, true) }) (v := ?_) rfl (by kernel_rfl) (by kernel_rfl) (by kernel_rfl) (fun _ _ _ h => h) (Or.inl ⟨by rfl, ?_⟩) hHeld_12 ?_
                            rotate_left
                            · (intro w hSw; (try dsimp only at hSw); go_simp; try with_reducible rfl)
                            try simp only [Act.put, List.setIfInBounds_toArray, List.set_cons_zero, List.set_cons_succ]
                            refine wpAnyH_ready (rs := [22]) (by kernel_rfl) (by simp) ?_
                            refine AllReadyH.cons (o := { dst := some 206, op := Op.call { callee := Callee.value (Operand.func 23), args := #[Operand.tmp 200, Operand.tmp 205], argTypes := #[37, 32] }, type := 47, pos := "outright.go:177", after := #[{ on := 16, ground := Ground.data }, { on := 21, ground := Ground.data }, { on := 14, ground := Ground.chain }, { on := 14, ground := Ground.guard }], guard := some (14, true) }) rfl (fun K hK => ?_) AllReadyH.nil
                            have NED : Hid _ := needs_any w8 ah ap x.ea nh ch np cp ne x.ec ts m goal SL7.out.n FEW.out.1 FEW.out.2.2 (SL7.out.ha.under H8.out) SL7.out.k FEW.out.2.1 (SL7.out.hp.under H8.out) GO.out.1 (by have := GO.out.2.1; omega) (GO.out.2.2.1.under (R7.out.under H8.out).b)
                            go_simp
                            go_at_call 23
                            refine Calls.mono NED.out ?_
                            rintro e w10 ⟨hb10, na, nn, nc, pa, pn, pc, vs, rfl, hv1, hv2, hv3, hv4, hv5⟩
                            have H10 : Hid (Below w7.heap.size w7 w10) := H8.out.trans (hb10.mono H8.out.size)
                            rw [SL7.out.h] at hv2 hv4 hv5
                            have en : nn = fn := by have h1 := congrArg List.length hv2; have h2 := congrArg List.length FF.out.h; rw [List.length_map] at h1 h2; have h3 := FF.out.n; omega
                            have ek : pn = fk := by rw [← hv4, FF.out.k]
                            subst en
                            subst ek
                            have hle : us.length ≤ ts.length := by have h2 := congrArg List.length FF.out.h; rw [List.length_map] at h2; rw [h2, ← SL7.out.h]; unfold needH; exact Nat.le_trans (List.length_filter_le _ _) (by rw [List.length_map]; exact Nat.le_refl _)
                            have SAM : Hid _ := sameFrame_t w10 fh na fp pa fg x.ea nn pn fz fc fd nc pc ff x.ec us vs (needQ (hypsA l) goal m) goal FF.out.n (by have h1 := FF.out.n; have h2 := SL7.out.n; have h3 := FEW.out.1; omega) (fun y hy => by have h1 : y.h ∈ hypsA l := (by have h0 : y.h ∈ us.map (·.h) := List.mem_map.2 ⟨y, hy, rfl⟩; rw [FF.out.h] at h0; exact (List.mem_filter.1 h0).1); have := (GL.out.wf _ h1).2.2; omega) (FF.out.h.trans hv2.symm) (FF.out.ha.under H10.out) hv3 FF.out.k (by have h1 := FF.out.k; have h2 : (needQ (hypsA l) goal m).length ≤ m.length := List.length_filter_le _ _; have h3 := SL7.out.k; have h4 := FEW.out.2.1; omega) (FF.out.hp.under H10.out) hv5 FF.out.z (by have h1 := FF.out.z; have h2 := GO.out.1; have h3 := GO.out.2.1; omega) (FF.out.hg.under H10.out) (GO.out.2.2.1.under (R7.out.under H10.out).b)
                            have EZ : Hid (fz = ne) := by show fz = ne; rw [← FF.out.z, GO.out.1]
                            clear hb10 hv1 hv2 hv3 hv4 hv5 NED hle
                            try go_wp2_with fail
                            refine hK.out _ _ ?_ (fun hHeld_22 => ?_)
                            · exact CL.out _ H10.out
                            clear hK K
                            try simp only [Act.put, List.setIfInBounds_toArray, List.set_cons_zero, List.set_cons_succ]
                            refine wpAnyH_ready (rs := [23]) (by kernel_rfl) (by simp) ?_
                            refine AllReadyH.cons (o := { dst := some 207, op := Op.call { callee := Callee.value (Operand.func 22), args := #[Operand.tmp 199, Operand.tmp 206], argTypes := #[47, 47] }, type := 4, pos := "outright.go:177", after := #[{ on := 15, ground := Ground.data }, { on := 22, ground := Ground.data }, { on := 22, ground := Ground.chain }, { on := 14, ground := Ground.guard }], guard := some (14, true) }) rfl (fun K hK => ?_) AllReadyH.nil
                            have ez := EZ.out
                            subst ez
                            go_simp
                            go_at_call 22
                            refine Calls.mono SAM.out ?_
                            rintro e w11 ⟨rfl, hb11⟩
                            have H11 : Hid (Below w7.heap.size w7 w11) := H10.out.trans (hb11.mono H10.out.size)
                            clear hb11 SAM
                            try go_wp2_with fail
                            refine hK.out _ _ ?_ (fun hHeld_23 => ?_)
                            · exact CL.out _ H11.out
                            clear hK K
                            try simp only [Act.put, List.setIfInBounds_toArray, List.set_cons_zero, List.set_cons_succ]
                            refine wpAnyH_take (i := 24) (oi := { dst := some 208, op := Op.unOp UnOp.not 4 (Operand.tmp 207), type := 4, pos := "outright.go:177", after := #[{ on := 23, ground := Ground.data }, { on := 14, ground := Ground.guard }], guard := some (14, true) }) (v := ?_) rfl (by kernel_rfl) (by kernel_rfl) (by kernel_rfl) (fun _ _ _ h => h) (Or.inl ⟨by rfl, ?_⟩) hHeld_23 ?_
                            rotate_left
                            · (intro w hSw; (try dsimp only at hSw); go_simp; try with_reducible rfl)
                            try simp only [Act.put, List.setIfInBounds_toArray, List.set_cons_zero, List.set_cons_succ]
                            refine wpAnyH_take (i := 25) (oi := { dst := some 209, op := Op.pick (Operand.tmp 198) (Operand.tmp 208) (Operand.const (Value.bool false)), type := 4, pos := "outright.go:177", after := #[{ on := 14, ground := Ground.data }, { on := 24, ground := Ground.data }, { on := 10, ground := Ground.guard }], guard := some (10, false) }) (v := ?_) rfl (by kernel_rfl) (by kernel_rfl) (by kernel_rfl) (fun _ _ _ h => h) (Or.inl ⟨by rfl, ?_⟩) hHeld_23 ?_
                            rotate_left
                            · (intro w hSw; (try dsimp only at hSw); go_simp; try with_reducible rfl)
                            try simp only [Act.put, List.setIfInBounds_toArray, List.set_cons_zero, List.set_cons_succ]
                            refine wpAnyH_take (i := 26) (oi := { dst := some 210, op := Op.pick (Operand.tmp 194) (Operand.const (Value.bool true)) (Operand.tmp 209), type := 4, pos := "outright.go:177", after := #[{ on := 10, ground := Ground.data }, { on := 25, ground := Ground.data }], guard := none }) (v := ?_) rfl (by kernel_rfl) (by kernel_rfl) (by kernel_rfl) (fun _ _ _ h => h) (Or.inl ⟨by rfl, ?_⟩) hHeld_23 ?_
                            rotate_left
                            · (intro w hSw; (try dsimp only at hSw); go_simp; try with_reducible rfl)
                            try simp only [Act.put, List.setIfInBounds_toArray, List.set_cons_zero, List.set_cons_succ]
                            refine wpAnyH_done (by kernel_rfl) ?_ _
                            go_wp2_with fail
                            go_meet
                            exact ⟨by first | rfl | simp, H11.out⟩
                          · have hE2 : (EC == 0) = false := by simpa using hE
                            have hE3 : (EC != 0) = true := by simpa using hE
                            have hE4 : decide (EC = 0) = false := by simpa using hE
                            refine wp_region_held_drew (S := fun w' => (w'.cell? ⟨S, 0, none⟩ = some (.slice ah nh ch) ∧ w'.cell? ⟨S, 1, none⟩ = some (.slice ap np cp)) ∧ w'.cell? ⟨b, off + k * 5 + 4, none⟩ = some (.slice x.ea ne x.ec) ∧ w'.cell? ⟨F, 0, none⟩ = some (.slice fh fn fc) ∧ w'.cell? ⟨F, 1, none⟩ = some (.slice fp fk fd) ∧ w'.cell? ⟨F, 2, none⟩ = some (.slice fg fz ff)) (by kernel_rfl) ?_ (fun hHeld => ?_)
                            · exact CL.out _ H0.out
                            refine wpAnyH_take (i := 0) (oi := { dst := some 184, op := Op.move (Operand.tmp 20), type := 29, pos := "outright.go:177", after := #[], guard := none }) (v := ?_) rfl (by kernel_rfl) (by kernel_rfl) (by kernel_rfl) (fun _ _ _ h => h) (Or.inl ⟨by rfl, ?_⟩) hHeld ?_
                            rotate_left
                            · (intro w hSw; (try dsimp only at hSw); go_simp; try with_reducible rfl)
                            try simp only [Act.put, List.setIfInBounds_toArray, List.set_cons_zero, List.set_cons_succ]
                            refine wpAnyH_take (i := 2) (oi := { dst := some 186, op := Op.load 37 (Operand.tmp 11), type := 37, pos := "outright.go:177", after := #[], guard := none }) (v := ?_) rfl (by kernel_rfl) (by kernel_rfl) (by kernel_rfl) (fun _ _ _ h => h) (Or.inl ⟨by rfl, ?_⟩) hHeld ?_
                            rotate_left
                            · (intro w hSw; (try dsimp only at hSw); go_simp; try with_reducible rfl)
                            try simp only [Act.put, List.setIfInBounds_toArray, List.set_cons_zero, List.set_cons_succ]
                            refine wpAnyH_take (i := 3) (oi := { dst := some 187, op := Op.move (Operand.tmp 1), type := 40, pos := "outright.go:177", after := #[], guard := none }) (v := ?_) rfl (by kernel_rfl) (by kernel_rfl) (by kernel_rfl) (fun _ _ _ h => h) (Or.inl ⟨by rfl, ?_⟩) hHeld ?_
                            rotate_left
                            · (intro w hSw; (try dsimp only at hSw); go_simp; try with_reducible rfl)
                            try simp only [Act.put, List.setIfInBounds_toArray, List.set_cons_zero, List.set_cons_succ]
                            refine wpAnyH_take (i := 4) (oi := { dst := some 188, op := Op.move (Operand.tmp 18), type := 3, pos := "outright.go:177", after := #[], guard := none }) (v := ?_) rfl (by kernel_rfl) (by kernel_rfl) (by kernel_rfl) (fun _ _ _ h => h) (Or.inl ⟨by rfl, ?_⟩) hHeld ?_
                            rotate_left
                            · (intro w hSw; (try dsimp only at hSw); go_simp; try with_reducible rfl)
                            try simp only [Act.put, List.setIfInBounds_toArray, List.set_cons_zero, List.set_cons_succ]
                            refine wpAnyH_take (i := 5) (oi := { dst := some 189, op := Op.indexAddr 40 (Operand.tmp 187) (Operand.tmp 188), type := 0, pos := "outright.go:177", after := #[{ on := 3, ground := Ground.data }, { on := 4, ground := Ground.data }], guard := none }) (v := ?_) rfl (by kernel_rfl) (by kernel_rfl) (by kernel_rfl) (fun _ _ _ h => h) (Or.inl ⟨by rfl, ?_⟩) hHeld ?_
                            rotate_left
                            · (intro w hSw; (try dsimp only at hSw); go_simp; try with_reducible rfl)
                            try simp only [Act.put, List.setIfInBounds_toArray, List.set_cons_zero, List.set_cons_succ]
                            refine wpAnyH_take (i := 6) (oi := { dst := some 190, op := Op.fieldAddr 45 (Operand.tmp 189) 4, type := 0, pos := "outright.go:177", after := #[{ on := 5, ground := Ground.data }], guard := none }) (v := ?_) rfl (by kernel_rfl) (by kernel_rfl) (by kernel_rfl) (fun _ _ _ h => h) (Or.inl ⟨by rfl, ?_⟩) hHeld ?_
                            rotate_left
                            · (intro w hSw; (try dsimp only at hSw); go_simp; try with_reducible rfl)
                            try simp only [Act.put, List.setIfInBounds_toArray, List.set_cons_zero, List.set_cons_succ]
                            refine wpAnyH_take (i := 7) (oi := { dst := some 191, op := Op.load 32 (Operand.tmp 190), type := 32, pos := "outright.go:177", after := #[{ on := 6, ground := Ground.data }], guard := none }) (v := ?_) rfl (by kernel_rfl) (by kernel_rfl) (by kernel_rfl) (fun _ _ _ h => h) (Or.inl ⟨by rfl, ?_⟩) hHeld ?_
                            rotate_left
                            · (intro w hSw; (try dsimp only at hSw); go_simp; try with_reducible rfl)
                            try simp only [Act.put, List.setIfInBounds_toArray, List.set_cons_zero, List.set_cons_succ]
                            refine wpAnyH_ready (rs := [1]) (by kernel_rfl) (by simp) ?_
                            refine AllReadyH.cons (o := { dst := some 185, op := Op.call { callee := Callee.value (Operand.func 11), args := #[Operand.tmp 184], argTypes := #[29] }, type := 3, pos := "outright.go:177", after := #[{ on := 0, ground := Ground.data }], guard := none }) rfl (fun K hK => ?_) AllReadyH.nil
                            go_simp
                            go_at_call 11
                            refine Calls.mono (NU.out _ _) ?_
                            rintro e wz ⟨rfl, hwz⟩
                            subst wz
                            try go_wp2_with fail
                            refine hK.out _ _ ?_ (fun hHeld_1 => ?_)
                            · exact CL.out _ H0.out
                            clear hK K
                            try simp only [Act.put, List.setIfInBounds_toArray, List.set_cons_zero, List.set_cons_succ]
                            refine wpAnyH_ready (rs := [8]) (by kernel_rfl) (by simp) ?_
                            refine AllReadyH.cons (o := { dst := some 192, op := Op.call { callee := Callee.value (Operand.func 21), args := #[Operand.tmp 186, Operand.tmp 191], argTypes := #[37, 32] }, type := 3, pos := "outright.go:177", after := #[{ on := 2, ground := Ground.data }, { on := 7, ground := Ground.data }, { on := 1, ground := Ground.chain }], guard := none }) rfl (fun K hK => ?_) AllReadyH.nil
                            go_simp
                            go_at_call 21
                            refine Calls.mono (MAY.out _ H0.out) ?_
                            rintro e w8 ⟨rfl, hb8⟩
                            have H8 : Hid (Below w7.heap.size w7 w8) := H0.out.trans (hb8.mono H0.out.size)
                            clear hb8
                            try go_wp2_with fail
                            refine hK.out _ _ ?_ (fun hHeld_8 => ?_)
                            · exact CL.out _ H8.out
                            clear hK K
                            try simp only [Act.put, List.setIfInBounds_toArray, List.set_cons_zero, List.set_cons_succ]
                            refine wpAnyH_take (i := 9) (oi := { dst := some 193, op := Op.binOp BinOp.neq 3 (Operand.tmp 185) (Operand.tmp 192) 3, type := 4, pos := "outright.go:177", after := #[{ on := 1, ground := Ground.data }, { on := 8, ground := Ground.data }], guard := none }) (v := ?_) rfl (by kernel_rfl) (by kernel_rfl) (by kernel_rfl) (fun _ _ _ h => h) (Or.inl ⟨by rfl, ?_⟩) hHeld_8 ?_
                            rotate_left
                            · (intro w hSw; (try dsimp only at hSw); go_simp; try with_reducible rfl)
                            try simp only [Act.put, List.setIfInBounds_toArray, List.set_cons_zero, List.set_cons_succ]
                            refine wpAnyH_take (i := 10) (oi := { dst := some 194, op := Op.move (Operand.tmp 193), type := 4, pos := "outright.go:177", after := #[{ on := 9, ground := Ground.data }, { on := 8, ground := Ground.chain }], guard := none }) (v := ?_) rfl (by kernel_rfl) (by kernel_rfl) (by kernel_rfl) (fun _ _ _ h => h) (Or.inl ⟨by rfl, ?_⟩) hHeld_8 ?_
                            rotate_left
                            · (intro w hSw; (try dsimp only at hSw); go_simp; try with_reducible rfl)
                            try simp only [Act.put, List.setIfInBounds_toArray, List.set_cons_zero, List.set_cons_succ]
                            refine wpAnyH_take (i := 11) (oi := { dst := some 195, op := Op.move (Operand.tmp 20), type := 29, pos := "outright.go:177", after := #[{ on := 10, ground := Ground.guard }], guard := some (10, false) }) (v := ?_) rfl (by kernel_rfl) (by kernel_rfl) (by kernel_rfl) (fun _ _ _ h => h) (Or.inl ⟨by rfl, ?_⟩) hHeld_8 ?_
                            rotate_left
                            · (intro w hSw; (try dsimp only at hSw); go_simp; try with_reducible rfl)
                            try simp only [Act.put, List.setIfInBounds_toArray, List.set_cons_zero, List.set_cons_succ]
                            refine wpAnyH_ready (rs := [12]) (by kernel_rfl) (by simp) ?_
                            refine AllReadyH.cons (o := { dst := some 196, op := Op.call { callee := Callee.value (Operand.func 11), args := #[Operand.tmp 195], argTypes := #[29] }, type := 3, pos := "outright.go:177", after := #[{ on := 11, ground := Ground.data }, { on := 10, ground := Ground.chain }, { on := 10, ground := Ground.guard }], guard := some (10, false) }) rfl (fun K hK => ?_) AllReadyH.nil
                            go_simp
                            go_at_call 11
                            refine Calls.mono (NU.out _ _) ?_
                            rintro e wz ⟨rfl, hwz⟩
                            subst wz
                            try go_wp2_with fail
                            refine hK.out _ _ ?_ (fun hHeld_12 => ?_)
                            · exact CL.out _ H8.out
                            clear hK K
                            try simp only [Act.put, List.setIfInBounds_toArray, List.set_cons_zero, List.set_cons_succ]
                            refine wpAnyH_take (i := 13) (oi := { dst := some 197, op := Op.binOp BinOp.eql 3 (Operand.tmp 196) (Operand.const (Value.int IntKind.i64 0)) 3, type := 4, pos := "outright.go:177", after := #[{ on := 12, ground := Ground.data }, { on := 10, ground := Ground.guard }], guard := some (10, false) }) (v := ?_) rfl (by kernel_rfl) (by kernel_rfl) (by kernel_rfl) (fun _ _ _ h => h) (Or.inl ⟨by rfl, ?_⟩) hHeld_12 ?_
                            rotate_left
                            · (intro w hSw; (try dsimp only at hSw); go_simp; try with_reducible rfl)
                            try simp only [Act.put, List.setIfInBounds_toArray, List.set_cons_zero, List.set_cons_succ]
                            refine wpAnyH_take (i := 14) (oi := { dst := some 198, op := Op.move (Operand.tmp 197), type := 4, pos := "outright.go:177", after := #[{ on := 13, ground := Ground.data }, { on := 12, ground := Ground.chain }, { on := 10, ground := Ground.guard }], guard := some (10, false) }) (v := ?_) rfl (by kernel_rfl) (by kernel_rfl) (by kernel_rfl) (fun _ _ _ h => h) (Or.inl ⟨by rfl, ?_⟩) hHeld_12 ?_
                            rotate_left
                            · (intro w hSw; (try dsimp only at hSw); go_simp; try with_reducible rfl)
                            try simp only [Act.put, List.setIfInBounds_toArray, List.set_cons_zero, List.set_cons_succ]
                            refine wpAnyH_take (i := 15) (oi := { dst := some 199, op := Op.load 47 (Operand.tmp 19), type := 47, pos := "outright.go:177", after := #[{ on := 14, ground := Ground.guard }], guard := some (14, true) }) (v := undef) rfl (by kernel_rfl) (by kernel_rfl) (by kernel_rfl) (fun _ _ _ h => h) (Or.inr ⟨by rfl, rfl⟩) hHeld_12 ?_
                            try simp only [Act.put, List.setIfInBounds_toArray, List.set_cons_zero, List.set_cons_succ]
                            refine wpAnyH_take (i := 16) (oi := { dst := some 200, op := Op.load 37 (Operand.tmp 11), type := 37, pos := "outright.go:177", after := #[{ on := 14, ground := Ground.guard }], guard := some (14, true) }) (v := undef) rfl (by kernel_rfl) (by kernel_rfl) (by kernel_rfl) (fun _ _ _ h => h) (Or.inr ⟨by rfl, rfl⟩) hHeld_12 ?_
                            try simp only [Act.put, List.setIfInBounds_toArray, List.set_cons_zero, List.set_cons_succ]
                            refine wpAnyH_take (i := 17) (oi := { dst := some 201, op := Op.move (Operand.tmp 1), type := 40, pos := "outright.go:177", after := #[{ on := 14, ground := Ground.guard }], guard := some (14, true) }) (v := undef) rfl (by kernel_rfl) (by kernel_rfl) (by kernel_rfl) (fun _ _ _ h => h) (Or.inr ⟨by rfl, rfl⟩) hHeld_12 ?_
                            try simp only [Act.put, List.setIfInBounds_toArray, List.set_cons_zero, List.set_cons_succ]
                            refine wpAnyH_take (i := 18) (oi := { dst := some 202, op := Op.move (Operand.tmp 18), type := 3, pos := "outright.go:177", after := #[{ on := 14, ground := Ground.guard }], guard := some (14, true) }) (v := undef) rfl (by kernel_rfl) (by kernel_rfl) (by kernel_rfl) (fun _ _ _ h => h) (Or.inr ⟨by rfl, rfl⟩) hHeld_12 ?_
                            try simp only [Act.put, List.setIfInBounds_toArray, List.set_cons_zero, List.set_cons_succ]
                            refine wpAnyH_take (i := 19) (oi := { dst := some 203, op := Op.indexAddr 40 (Operand.tmp 201) (Operand.tmp 202), type := 0, pos := "outright.go:177", after := #[{ on := 17, ground := Ground.data }, { on := 18, ground := Ground.data }, { on := 14, ground := Ground.guard }], guard := some (14, true) }) (v := undef) rfl (by kernel_rfl) (by kernel_rfl) (by kernel_rfl) (fun _ _ _ h => h) (Or.inr ⟨by rfl, rfl⟩) hHeld_12 ?_
                            try simp only [Act.put, List.setIfInBounds_toArray, List.set_cons_zero, List.set_cons_succ]
                            refine wpAnyH_take (i := 20) (oi := { dst := some 204, op := Op.fieldAddr 45 (Operand.tmp 203) 4, type := 0, pos := "outright.go:177", after := #[{ on := 19, ground := Ground.data }, { on := 14, ground := Ground.guard }], guard := some (14, true) }) (v := undef) rfl (by kernel_rfl) (by kernel_rfl) (by kernel_rfl) (fun _ _ _ h => h) (Or.inr ⟨by rfl, rfl⟩) hHeld_12 ?_
                            try simp only [Act.put, List.setIfInBounds_toArray, List.set_cons_zero, List.set_cons_succ]
                            refine wpAnyH_take (i := 21) (oi := { dst := some 205, op := Op.load 32 (Operand.tmp 204), type := 32, pos := "outright.go:177", after := #[{ on := 20, ground := Ground.data }, { on := 14, ground := Ground.guard }], guard := some (14, true) }) (v := undef) rfl (by kernel_rfl) (by kernel_rfl) (by kernel_rfl) (fun _ _ _ h => h) (Or.inr ⟨by rfl, rfl⟩) hHeld_12 ?_
                            try simp only [Act.put, List.setIfInBounds_toArray, List.set_cons_zero, List.set_cons_succ]
                            refine wpAnyH_take (i := 22) (oi := { dst := some 206, op := Op.call { callee := Callee.value (Operand.func 23), args := #[Operand.tmp 200, Operand.tmp 205], argTypes := #[37, 32] }, type := 47, pos := "outright.go:177", after := #[{ on := 16, ground := Ground.data }, { on := 21, ground := Ground.data }, { on := 14, ground := Ground.chain }, { on := 14, ground := Ground.guard }], guard := some (14, true) }) (v := undef) rfl (by kernel_rfl) (by kernel_rfl) (by kernel_rfl) (fun _ _ _ h => h) (Or.inr ⟨by rfl, rfl⟩) hHeld_12 ?_
                            try simp only [Act.put, List.setIfInBounds_toArray, List.set_cons_zero, List.set_cons_succ]
                            refine wpAnyH_take (i := 23) (oi := { dst := some 207, op := Op.call { callee := Callee.value (Operand.func 22), args := #[Operand.tmp 199, Operand.tmp 206], argTypes := #[47, 47] }, type := 4, pos := "outright.go:177", after := #[{ on := 15, ground := Ground.data }, { on := 22, ground := Ground.data }, { on := 22, ground := Ground.chain }, { on := 14, ground := Ground.guard }], guard := some (14, true) }) (v := undef) rfl (by kernel_rfl) (by kernel_rfl) (by kernel_rfl) (fun _ _ _ h => h) (Or.inr ⟨by rfl, rfl⟩) hHeld_12 ?_
                            try simp only [Act.put, List.setIfInBounds_toArray, List.set_cons_zero, List.set_cons_succ]
                            refine wpAnyH_take (i := 24) (oi := { dst := some 208, op := Op.unOp UnOp.not 4 (Operand.tmp 207), type := 4, pos := "outright.go:177", after := #[{ on := 23, ground := Ground.data }, { on := 14, ground := Ground.guard }], guard := some (14, true) }) (v := undef) rfl (by kernel_rfl) (by kernel_rfl) (by kernel_rfl) (fun _ _ _ h => h) (Or.inr ⟨by rfl, rfl⟩) hHeld_12 ?_
                            try simp only [Act.put, List.setIfInBounds_toArray, List.set_cons_zero, List.set_cons_succ]
                            refine wpAnyH_take (i := 25) (oi := { dst := some 209, op := Op.pick (Operand.tmp 198) (Operand.tmp 208) (Operand.const (Value.bool false)), type := 4, pos := "outright.go:177", after := #[{ on := 14, ground := Ground.data }, { on := 24, ground := Ground.data }, { on := 10, ground := Ground.guard }], guard := some (10, false) }) (v := ?_) rfl (by kernel_rfl) (by kernel_rfl) (by kernel_rfl) (fun _ _ _ h => h) (Or.inl ⟨by rfl, ?_⟩) hHeld_12 ?_
                            rotate_left
                            · (intro w hSw; (try dsimp only at hSw); go_simp; try with_reducible rfl)
                            try simp only [Act.put, List.setIfInBounds_toArray, List.set_cons_zero, List.set_cons_succ]
                            refine wpAnyH_take (i := 26) (oi := { dst := some 210, op := Op.pick (Operand.tmp 194) (Operand.const (Value.bool true)) (Operand.tmp 209), type := 4, pos := "outright.go:177", after := #[{ on := 10, ground := Ground.data }, { on := 25, ground := Ground.data }], guard := none }) (v := ?_) rfl (by kernel_rfl) (by kernel_rfl) (by kernel_rfl) (fun _ _ _ h => h) (Or.inl ⟨by rfl, ?_⟩) hHeld_12 ?_
                            rotate_left
                            · (intro w hSw; (try dsimp only at hSw); go_simp; try with_reducible rfl)
                            try simp only [Act.put, List.setIfInBounds_toArray, List.set_cons_zero, List.set_cons_succ]
                            refine wpAnyH_done (by kernel_rfl) ?_ _
                            go_wp2_with fail
                            go_meet
                            exact ⟨by first | rfl | simp, H8.out⟩
                        case rest => as_aux_lemma =>
                          obtain ⟨rfl, hbc⟩ := hcut
                          have BW : Hid (Below w9.heap.size w9 wc) := B97.out.trans (hbc.out.mono B97.out.size)
                          clear hbc CL MAY FL B97 hB
                          go_wp2
                          refine ⟨⟨k + 1, by omega, by go_num, ?_⟩, by simp [intOf]; omega⟩
                          exact BW.out
                      · have n1 : ¬ (k : Int) < (j : Int) := by omega
                        have BF : Hid (Below w.heap.size w wr) := (R9.out.under hB.out).b
                        clear hB
                        go_wp2
                        go_ret
                        exact ⟨rfl, BF.out⟩
                · obtain ⟨qp, rfl⟩ : ∃ qp, q2 = qp + 1 := ⟨q2 - 1, by omega⟩
                  have m1 : (0 : Int) < (qp : Int) + 1 := by omega
                  have CLS : Hid (Calls Tryz.prog 25 #[.pointer (some ⟨P, 0, none⟩)] wr (DeclR w P N0 (S + 1) wr 0 (l ++ r2.take (r2.length - 1)))) := by
                    have h := close_rs I2.out.st I2.out.g.n0 (by have := I2.out.g.n1; omega)
                    have h1 := close_in l r2 GL.out.n0 (by have := I2.out.len; omega)
                    rw [h1.1, h1.2] at h
                    exact h
                  have G2 : Hid (Good (i + 1 + j) 1048576 (l ++ r2.take (r2.length - 1))) := by have h := I2.out.g.close; rw [(close_in l r2 GL.out.n0 (by have := I2.out.len; omega)).2] at h; exact h
                  go_wp2_with fail
                  refine Calls.mono CLS.out ?_
                  rintro e w6 ⟨rfl, hR6, hC6⟩
                  have I6 : Hid (InS w w6 P N0 (S + 1) S l qp (i + 1 + j) ah ap nh ch np cp ts m (r2.take (r2.length - 1))) := ⟨by rw [List.length_take]; have := I2.out.len; omega, G2.out, hR6, I2.out.kp.kc hC6⟩
                  clear hR6 hC6 CLS G2 I2
                  go_wp2_with fail
                  refine Calls.mono (NU.out _ _) ?_
                  rintro e wz ⟨rfl, hwz⟩
                  subst wz
                  go_wp2
                  exact ⟨⟨qp, by omega, by go_num, _, I6.out⟩, by simp [intOf]⟩
end Go.Proofs.YtkejjiilcoacfaaGreat
