/- FrameNeeds along its text. -/
import Derived.Test.YtkejjiilcoacfaaGreatNeedsW
namespace Go.Proofs.YtkejjiilcoacfaaGreat
open Go.Maps Go.RowKit Go.WideMaps

/-- What a round of FrameNeeds holds. -/
structure RoundN (w0 W : World) (P i : Nat) (l : List Sa) : Prop where
  g : Good i 1048576 l
  st : StA w0.heap.size W P l
  b : Below w0.heap.size w0 W
theorem RoundN.under {w0 W W' : World} {P i : Nat} {l : List Sa} (h : RoundN w0 W P i l) (hb : Below W.heap.size W W') : RoundN w0 W' P i l := ⟨h.g, h.st.below hb, h.b.trans (hb.mono h.b.size)⟩
set_option maxRecDepth 100000 in
set_option maxHeartbeats 32000000 in
theorem needs_walk (w : World) (a : Option Addr) (n c : Nat) (os : List OpC) (hl : os.length = n) (hos : OpsOk os) (hA : OpsAt w a os) :
    Calls Tryz.prog 5 #[.slice a n c] w fun e w' => e = .returned (.bool true) ∧ Below w.heap.size w w' := by
  have hn : n ≤ 1000000 := by have := hos.n; omega
  have OPS : Hid (OpsAt w a os ∧ OpsOk os ∧ os.length = n) := ⟨hA, hos, hl⟩
  have AL : Hid _ := alive_any w
  have NE : Hid (∀ W, Calls Tryz.prog 9 #[.func (.func 10) #[] #[]] W fun e w' => ∃ P, e = .returned (.pointer (some ⟨P, 0, none⟩)) ∧ StA W.heap.size w' P [⟨[], []⟩] ∧ Below W.heap.size W w') := fun W => new_st W
  have NU : Hid (∀ n wx, Calls Tryz.prog 11 #[.int .i64 n] wx fun e w' => e = .returned (.int .i64 n) ∧ w' = wx) := fun n wx => num_any wx n
  have VA : Hid (∀ n wx, Calls Tryz.prog 10 #[.int .i64 n] wx fun e w' => e = .returned (.bool (isV n)) ∧ w' = wx) := fun n wx => vars_any wx n
  clear hl hos hA
  go_enter Tryz.func5, Tryz.ntmps5
  go_wp2_with fail
  refine Calls.mono AL.out ?_
  rintro e w1 ⟨rfl, hb1⟩
  have B1 : Hid (Below w.heap.size w w1) := hb1
  clear hb1 AL
  go_wp2_with fail
  refine Calls.mono (NE.out _) ?_
  rintro e w2 ⟨P, rfl, hS2, hb2⟩
  have R2 : Hid (RoundN w w2 P 0 [⟨[], []⟩]) := ⟨Good.new _, by
    obtain ⟨O, vS, xs, h1, h2, h3⟩ := hS2
    exact ⟨O, vS, xs, h1, h2, fun g hg => Nat.le_trans B1.out.size (h3 g hg)⟩, B1.out.trans (hb2.mono B1.out.size)⟩
  clear NE hS2 hb2 B1
  go_wp2_with fail
  go_loopw [4] (fun v4 wx => ∃ i : Nat, i ≤ n ∧ v4 = .int .i64 i ∧ Hid (∃ l, RoundN w wx P i l)) (fun v4 _ => n - (intOf v4).toNat)
  case atStart => exact ⟨0, Nat.zero_le _, rfl, _, R2.out⟩
  case round =>
    obtain ⟨i, hi, rfl, hR⟩ := hrel
    clear R2
    obtain ⟨l, hRn⟩ := hR.out
    have RN : Hid (RoundN w wr P i l) := hRn
    clear hR hRn
    by_cases hlt : i < n
    · have n1 : (i : Int) < (n : Int) := by omega
      obtain ⟨x, hx⟩ : ∃ x, os[i]? = some x := ⟨_, List.getElem?_eq_getElem (by rw [OPS.out.2.2]; exact hlt)⟩
      have hxm := List.mem_of_getElem? hx
      obtain ⟨b, off, ea, q0, q1, q2, q3, q4, q5⟩ := OPS.out.1 i x hx
      have XO : Hid (OpOk 1048576 x.o ∧ x.o.lab.size ≤ 281474976710656 ∧ NsAt w x.ea x.o.e) := ⟨OPS.out.2.1.o x hxm, OPS.out.2.1.l x hxm, q5⟩
      subst ea
      have SAY : Hid _ := says_st RN.out.b RN.out.st (RN.out.g.ok (by omega) (by omega)) x XO.out.1 XO.out.2.1 XO.out.2.2
      obtain ⟨l1, hl1⟩ : ∃ l1, sayL l x.o = l1 := ⟨_, rfl⟩
      have G1 : Hid (Good (i + 1) 1048576 l1) := by show Good _ _ _; rw [← hl1]; exact RN.out.g.step x.o XO.out.1
      rw [hl1] at SAY
      generalize sayE l x.o = SE at SAY
      obtain ⟨goal, hgo⟩ : ∃ goal, x.o.e = goal := ⟨_, rfl⟩
      obtain ⟨ne, hne⟩ : ∃ ne, goal.length = ne := ⟨_, rfl⟩
      rw [hgo, hne] at q4 SAY
      have GO : Hid (goal.length = ne ∧ ne ≤ 1048576 ∧ NsAt w x.ea goal ∧ ∀ v ∈ goal, wfN v) := ⟨hne, by have := XO.out.1.n; rw [hgo, hne] at this; exact this, by rw [← hgo]; exact XO.out.2.2, by rw [← hgo]; exact XO.out.1.e⟩
      have CE : Hid (∀ W, Below w.heap.size w W → W.cell? ⟨b, off + i * 5, none⟩ = some (.int .i64 x.o.k) ∧ W.cell? ⟨b, off + i * 5 + 1, none⟩ = some (.string x.o.lab) ∧ W.cell? ⟨b, off + i * 5 + 2, none⟩ = some (.int .i64 x.o.a) ∧ W.cell? ⟨b, off + i * 5 + 3, none⟩ = some (.int .i64 x.o.b) ∧ W.cell? ⟨b, off + i * 5 + 4, none⟩ = some (.slice x.ea ne x.ec)) := fun W hW => ⟨cell_under hW q0, cell_under hW q1, cell_under hW q2, cell_under hW q3, cell_under hW q4⟩
      clear q0 q1 q2 q3 q4 q5 hx hxm hl1 hgo hne XO
      obtain ⟨q0, q1, q2, q3, q4⟩ := CE.out wr RN.out.b
      go_wp2_with fail
      refine Calls.mono SAY.out ?_
      rintro e w3 ⟨rfl, hS3, hb3⟩
      have R3 : Hid (RoundN w w3 P (i + 1) l1) := ⟨G1.out, hS3, RN.out.b.trans hb3⟩
      have SCO : Hid _ := scope_law hS3 G1.out (by omega)
      clear hS3 hb3 SAY RN q0 q1 q2 q3 q4
      go_wp2_with fail
      refine Calls.mono SCO.out ?_
      rintro e w4 ⟨hb4, ah, nh, ch, ap, np, cp, ts, m, rfl, hsc⟩
      obtain ⟨w5, hw5⟩ : ∃ w5, w5 = w4.alloc (.cells #[.slice ah nh ch, .slice ap np cp] 37) := ⟨_, rfl⟩
      obtain ⟨S, hS⟩ : ∃ S, w4.heap.size = S := ⟨_, rfl⟩
      have HW5 : Hid (w5 = w4.alloc (.cells #[.slice ah nh ch, .slice ap np cp] 37)) := hw5
      have HS : Hid (w4.heap.size = S) := hS
      have b5 : Below w4.heap.size w4 w5 := by rw [hw5]; exact fr_below_alloc _ _
      have k5 : w5.heap[S]? = some (.cells #[.slice ah nh ch, .slice ap np cp] 37 (0, 0)) := by rw [hw5, ← hS]; exact heap_alloc_new w4 _
      have R5 : Hid (RoundN w w5 P (i + 1) l1) := (R3.out.under hb4).under b5
      have SL : Hid (ScopeL w5 l1 ah ap nh np ts m) := hsc.under b5
      have K5 : Hid (w5.heap[S]? = some (.cells #[.slice ah nh ch, .slice ap np cp] 37 (0, 0))) := k5
      have FRA : Hid _ := frame_law R5.out.st G1.out (by omega) hsc.nm x.ea ne x.ec goal GO.out.1 GO.out.2.1 (GO.out.2.2.1.under R5.out.b) GO.out.2.2.2
      have q4 := (CE.out w5 R5.out.b).2.2.2.2
      clear hw5 hS b5 k5 hsc hb4 SCO R3
      go_upto_region 11 with fail
      rw [← HW5.out, HS.out]
      clear HW5 HS
      go_wp2_with fail
      refine Calls.mono FRA.out ?_
      rintro e w6 ⟨hb6, fh, fn, fc, fp, fk, fd, fg, fz, ff, us, rfl, hf1, hf2⟩
      obtain ⟨w7, hw7⟩ : ∃ w7, w7 = w6.alloc (.cells #[.slice fh fn fc, .slice fp fk fd, .slice fg fz ff] 47) := ⟨_, rfl⟩
      obtain ⟨F, hF⟩ : ∃ F, w6.heap.size = F := ⟨_, rfl⟩
      have HW7 : Hid (w7 = w6.alloc (.cells #[.slice fh fn fc, .slice fp fk fd, .slice fg fz ff] 47)) := hw7
      have HF : Hid (w6.heap.size = F) := hF
      have b7 : Below w6.heap.size w6 w7 := by rw [hw7]; exact fr_below_alloc _ _
      have k7 : w7.heap[F]? = some (.cells #[.slice fh fn fc, .slice fp fk fd, .slice fg fz ff] 47 (0, 0)) := by rw [hw7, ← hF]; exact heap_alloc_new w6 _
      have b57 : Below w5.heap.size w5 w7 := hb6.trans (b7.mono hb6.size)
      have R7 : Hid (RoundN w w7 P (i + 1) l1) := R5.out.under b57
      have SL7 : Hid (ScopeL w7 l1 ah ap nh np ts m) := SL.out.under b57
      have K7 : Hid (w7.heap[S]? = some (.cells #[.slice ah nh ch, .slice ap np cp] 37 (0, 0)) ∧ w7.heap[F]? = some (.cells #[.slice fh fn fc, .slice fp fk fd, .slice fg fz ff] 47 (0, 0))) := ⟨(b57.block S (Array.getElem?_eq_some_iff.1 K5.out).1).trans K5.out, k7⟩
      obtain ⟨EC, hEC⟩ : ∃ EC, mayF (hypsA l1) goal = EC := ⟨_, rfl⟩
      have HEC : Hid (mayF (hypsA l1) goal = EC) := hEC
      rw [hEC] at hf1 hf2 ⊢
      have FL : Hid ((EC = 0 → FrameL w7 l1 m goal fh fp fg fn fk fz us) ∧ (EC ≠ 0 → fn = 0 ∧ fk = 0 ∧ fz = 0)) := ⟨fun h => (hf1 h).under b7, hf2⟩
      have FEW : Hid (nh ≤ 1048576 ∧ np ≤ 1048576 ∧ ∀ y ∈ ts, y.h.ex.length ≤ 17592186043904) := SL7.out.few G1.out (by omega)
      clear hw7 hF b7 k7 b57 hb6 FRA R5 SL K5 hf1 hf2 hEC q4
      go_upto_region 12 with fail
      rw [← HW7.out, HF.out]
      clear HW7 HF
      have CL : Hid (∀ W, Below w7.heap.size w7 W → (W.cell? ⟨S, 0, none⟩ = some (.slice ah nh ch) ∧ W.cell? ⟨S, 1, none⟩ = some (.slice ap np cp)) ∧ W.cell? ⟨b, off + i * 5 + 4, none⟩ = some (.slice x.ea ne x.ec) ∧ W.cell? ⟨F, 0, none⟩ = some (.slice fh fn fc) ∧ W.cell? ⟨F, 1, none⟩ = some (.slice fp fk fd) ∧ W.cell? ⟨F, 2, none⟩ = some (.slice fg fz ff)) := fun W hW => by
        have h1 := (hW.block S (Array.getElem?_eq_some_iff.1 K7.out.1).1).trans K7.out.1
        have h2 := (hW.block F (Array.getElem?_eq_some_iff.1 K7.out.2).1).trans K7.out.2
        exact ⟨⟨M.cell_whole h1 0, M.cell_whole h1 1⟩, (CE.out W (R7.out.under hW).b).2.2.2.2, M.cell_whole h2 0, M.cell_whole h2 1, M.cell_whole h2 2⟩
      clear CE
      have MAY : Hid (∀ W, Below w7.heap.size w7 W → Calls Tryz.prog 21 #[.agg #[.slice ah nh ch, .slice ap np cp], .slice x.ea ne x.ec] W fun e w' => e = .returned (.int .i64 EC) ∧ Below W.heap.size W w') := fun W hW => by
        have h1 := may_any W ah ap x.ea nh np ne ch cp x.ec ts goal SL7.out.n FEW.out.1 (SL7.out.ha.under hW) GO.out.1 (by have := GO.out.2.1; omega) (GO.out.2.2.1.under (R7.out.under hW).b)
        rw [SL7.out.h, HEC.out] at h1
        exact h1
      have SCP : Hid (∀ W, Below w7.heap.size w7 W → Calls Tryz.prog 15 #[.pointer (some ⟨P, 0, none⟩)] W fun e w' => Below W.heap.size W w' ∧ ∃ a n c p k d ts2 m2, e = .returned (.agg #[.slice a n c, .slice p k d]) ∧ ScopeL w' l1 a p n k ts2 m2) := fun W hW => scope_law (R7.out.st.below hW) G1.out (by omega)
      go_cut [60] (fun v60 wx => v60 = .bool false ∧ Hid (Below w7.heap.size w7 wx))
      case first => as_aux_lemma =>
        have HS0 : Hid (∀ W, Below w7.heap.size w7 W → (W.cell? ⟨S, 0, none⟩ = some (.slice ah nh ch) ∧ W.cell? ⟨S, 1, none⟩ = some (.slice ap np cp)) ∧ W.cell? ⟨b, off + i * 5 + 4, none⟩ = some (.slice x.ea ne x.ec)) := fun W hW => ⟨(CL.out W hW).1, (CL.out W hW).2.1⟩
        have H0 : Hid (Below w7.heap.size w7 w7.drew) := fr_below_drewN (Below.refl _ _) 1
        refine wp_region_held_drew (S := fun w' => (w'.cell? ⟨S, 0, none⟩ = some (.slice ah nh ch) ∧ w'.cell? ⟨S, 1, none⟩ = some (.slice ap np cp)) ∧ w'.cell? ⟨b, off + i * 5 + 4, none⟩ = some (.slice x.ea ne x.ec)) (by kernel_rfl) ?_ (fun hHeld => ?_)
        · exact HS0.out _ H0.out
        refine wpAnyH_take (i := 0) (oi := { dst := some 44, op := Op.move (Operand.tmp 7), type := 29, pos := "outright.go:99", after := #[], guard := none }) (v := ?_) rfl (by kernel_rfl) (by kernel_rfl) (by kernel_rfl) (fun _ _ _ h => h) (Or.inl ⟨by rfl, ?_⟩) hHeld ?_
        rotate_left
        · (intro w hSw; (try dsimp only at hSw); go_simp; try with_reducible rfl)
        try simp only [Act.put, List.setIfInBounds_toArray, List.set_cons_zero, List.set_cons_succ]
        refine wpAnyH_take (i := 2) (oi := { dst := some 46, op := Op.load 37 (Operand.tmp 5), type := 37, pos := "outright.go:99", after := #[], guard := none }) (v := ?_) rfl (by kernel_rfl) (by kernel_rfl) (by kernel_rfl) (fun _ _ _ h => h) (Or.inl ⟨by rfl, ?_⟩) hHeld ?_
        rotate_left
        · (intro w hSw; (try dsimp only at hSw); go_simp; try with_reducible rfl)
        try simp only [Act.put, List.setIfInBounds_toArray, List.set_cons_zero, List.set_cons_succ]
        refine wpAnyH_take (i := 3) (oi := { dst := some 47, op := Op.move (Operand.tmp 0), type := 40, pos := "outright.go:99", after := #[], guard := none }) (v := ?_) rfl (by kernel_rfl) (by kernel_rfl) (by kernel_rfl) (fun _ _ _ h => h) (Or.inl ⟨by rfl, ?_⟩) hHeld ?_
        rotate_left
        · (intro w hSw; (try dsimp only at hSw); go_simp; try with_reducible rfl)
        try simp only [Act.put, List.setIfInBounds_toArray, List.set_cons_zero, List.set_cons_succ]
        refine wpAnyH_take (i := 4) (oi := { dst := some 48, op := Op.move (Operand.tmp 4), type := 3, pos := "outright.go:99", after := #[], guard := none }) (v := ?_) rfl (by kernel_rfl) (by kernel_rfl) (by kernel_rfl) (fun _ _ _ h => h) (Or.inl ⟨by rfl, ?_⟩) hHeld ?_
        rotate_left
        · (intro w hSw; (try dsimp only at hSw); go_simp; try with_reducible rfl)
        try simp only [Act.put, List.setIfInBounds_toArray, List.set_cons_zero, List.set_cons_succ]
        refine wpAnyH_take (i := 5) (oi := { dst := some 49, op := Op.indexAddr 40 (Operand.tmp 47) (Operand.tmp 48), type := 0, pos := "outright.go:99", after := #[{ on := 3, ground := Ground.data }, { on := 4, ground := Ground.data }], guard := none }) (v := ?_) rfl (by kernel_rfl) (by kernel_rfl) (by kernel_rfl) (fun _ _ _ h => h) (Or.inl ⟨by rfl, ?_⟩) hHeld ?_
        rotate_left
        · (intro w hSw; (try dsimp only at hSw); go_simp; try with_reducible rfl)
        try simp only [Act.put, List.setIfInBounds_toArray, List.set_cons_zero, List.set_cons_succ]
        refine wpAnyH_take (i := 6) (oi := { dst := some 50, op := Op.fieldAddr 45 (Operand.tmp 49) 4, type := 0, pos := "outright.go:99", after := #[{ on := 5, ground := Ground.data }], guard := none }) (v := ?_) rfl (by kernel_rfl) (by kernel_rfl) (by kernel_rfl) (fun _ _ _ h => h) (Or.inl ⟨by rfl, ?_⟩) hHeld ?_
        rotate_left
        · (intro w hSw; (try dsimp only at hSw); go_simp; try with_reducible rfl)
        try simp only [Act.put, List.setIfInBounds_toArray, List.set_cons_zero, List.set_cons_succ]
        refine wpAnyH_take (i := 7) (oi := { dst := some 51, op := Op.load 32 (Operand.tmp 50), type := 32, pos := "outright.go:99", after := #[{ on := 6, ground := Ground.data }], guard := none }) (v := ?_) rfl (by kernel_rfl) (by kernel_rfl) (by kernel_rfl) (fun _ _ _ h => h) (Or.inl ⟨by rfl, ?_⟩) hHeld ?_
        rotate_left
        · (intro w hSw; (try dsimp only at hSw); go_simp; try with_reducible rfl)
        try simp only [Act.put, List.setIfInBounds_toArray, List.set_cons_zero, List.set_cons_succ]
        refine wpAnyH_ready (rs := [1]) (by kernel_rfl) (by simp) ?_
        refine AllReadyH.cons (o := { dst := some 45, op := Op.call { callee := Callee.value (Operand.func 11), args := #[Operand.tmp 44], argTypes := #[29] }, type := 3, pos := "outright.go:99", after := #[{ on := 0, ground := Ground.data }], guard := none }) rfl (fun K hK => ?_) AllReadyH.nil
        go_simp
        go_at_call 11
        refine Calls.mono (NU.out _ _) ?_
        rintro e wz ⟨rfl, hwz⟩
        subst wz
        try go_wp2_with fail
        refine hK.out _ _ ?_ (fun hHeld_1 => ?_)
        · exact HS0.out _ H0.out
        clear hK K
        try simp only [Act.put, List.setIfInBounds_toArray, List.set_cons_zero, List.set_cons_succ]
        refine wpAnyH_ready (rs := [8]) (by kernel_rfl) (by simp) ?_
        refine AllReadyH.cons (o := { dst := some 52, op := Op.call { callee := Callee.value (Operand.func 21), args := #[Operand.tmp 46, Operand.tmp 51], argTypes := #[37, 32] }, type := 3, pos := "outright.go:99", after := #[{ on := 2, ground := Ground.data }, { on := 7, ground := Ground.data }, { on := 1, ground := Ground.chain }], guard := none }) rfl (fun K hK => ?_) AllReadyH.nil
        go_simp
        go_at_call 21
        refine Calls.mono (MAY.out _ H0.out) ?_
        rintro e w8 ⟨rfl, hb8⟩
        have H8 : Hid (Below w7.heap.size w7 w8) := H0.out.trans (hb8.mono H0.out.size)
        clear hb8
        try go_wp2_with fail
        refine hK.out _ _ ?_ (fun hHeld_8 => ?_)
        · exact HS0.out _ H8.out
        clear hK K
        try simp only [Act.put, List.setIfInBounds_toArray, List.set_cons_zero, List.set_cons_succ]
        refine wpAnyH_take (i := 9) (oi := { dst := some 53, op := Op.binOp BinOp.neq 3 (Operand.tmp 45) (Operand.tmp 52) 3, type := 4, pos := "outright.go:99", after := #[{ on := 1, ground := Ground.data }, { on := 8, ground := Ground.data }], guard := none }) (v := ?_) rfl (by kernel_rfl) (by kernel_rfl) (by kernel_rfl) (fun _ _ _ h => h) (Or.inl ⟨by rfl, ?_⟩) hHeld_8 ?_
        rotate_left
        · (intro w hSw; (try dsimp only at hSw); go_simp; try with_reducible rfl)
        try simp only [Act.put, List.setIfInBounds_toArray, List.set_cons_zero, List.set_cons_succ]
        refine wpAnyH_take (i := 10) (oi := { dst := some 54, op := Op.move (Operand.tmp 53), type := 4, pos := "outright.go:99", after := #[{ on := 9, ground := Ground.data }, { on := 8, ground := Ground.chain }], guard := none }) (v := ?_) rfl (by kernel_rfl) (by kernel_rfl) (by kernel_rfl) (fun _ _ _ h => h) (Or.inl ⟨by rfl, ?_⟩) hHeld_8 ?_
        rotate_left
        · (intro w hSw; (try dsimp only at hSw); go_simp; try with_reducible rfl)
        try simp only [Act.put, List.setIfInBounds_toArray, List.set_cons_zero, List.set_cons_succ]
        refine wpAnyH_take (i := 11) (oi := { dst := some 55, op := Op.move (Operand.tmp 3), type := 25, pos := "outright.go:99", after := #[{ on := 10, ground := Ground.guard }], guard := some (10, false) }) (v := ?_) rfl (by kernel_rfl) (by kernel_rfl) (by kernel_rfl) (fun _ _ _ h => h) (Or.inl ⟨by rfl, ?_⟩) hHeld_8 ?_
        rotate_left
        · (intro w hSw; (try dsimp only at hSw); go_simp; try with_reducible rfl)
        try simp only [Act.put, List.setIfInBounds_toArray, List.set_cons_zero, List.set_cons_succ]
        refine wpAnyH_take (i := 13) (oi := { dst := some 57, op := Op.load 37 (Operand.tmp 5), type := 37, pos := "outright.go:99", after := #[{ on := 10, ground := Ground.guard }], guard := some (10, false) }) (v := ?_) rfl (by kernel_rfl) (by kernel_rfl) (by kernel_rfl) (fun _ _ _ h => h) (Or.inl ⟨by rfl, ?_⟩) hHeld_8 ?_
        rotate_left
        · (intro w hSw; (try dsimp only at hSw); go_simp; try with_reducible rfl)
        try simp only [Act.put, List.setIfInBounds_toArray, List.set_cons_zero, List.set_cons_succ]
        refine wpAnyH_ready (rs := [12]) (by kernel_rfl) (by simp) ?_
        refine AllReadyH.cons (o := { dst := some 56, op := Op.call { callee := Callee.value (Operand.func 15), args := #[Operand.tmp 55], argTypes := #[25] }, type := 37, pos := "outright.go:99", after := #[{ on := 11, ground := Ground.data }, { on := 10, ground := Ground.chain }, { on := 10, ground := Ground.guard }], guard := some (10, false) }) rfl (fun K hK => ?_) AllReadyH.nil
        go_simp
        go_at_call 15
        refine Calls.mono (SCP.out _ H8.out) ?_
        rintro e w9 ⟨hb9, a9, n9, c9, p9, k9, d9, ts9, m9, rfl, hs9⟩
        have H9 : Hid (Below w7.heap.size w7 w9) := H8.out.trans (hb9.mono H8.out.size)
        have en : n9 = nh := by have h1 := congrArg List.length hs9.h; have h2 := congrArg List.length SL7.out.h; rw [List.length_map, hs9.n] at h1; rw [List.length_map, SL7.out.n] at h2; omega
        have em : m9 = m := norm_one hs9.nm SL7.out.nm
        subst em
        have ek : k9 = np := by rw [← hs9.k, SL7.out.k]
        subst en
        subst ek
        have SAM : Hid _ := sameScope_t w9 a9 ah p9 ap n9 k9 c9 d9 ch cp ts9 ts m9 hs9.n FEW.out.1 (fun y hy => by have h1 : y.h ∈ ts.map (·.h) := (by rw [SL7.out.h, ← hs9.h]; exact List.mem_map.2 ⟨y, hy, rfl⟩); obtain ⟨y2, h2, h3⟩ := List.mem_map.1 h1; rw [← h3]; exact FEW.out.2.2 y2 h2) (hs9.h.trans SL7.out.h.symm) hs9.ha (SL7.out.ha.under H9.out) hs9.k FEW.out.2.1 hs9.hp (SL7.out.hp.under H9.out)
        clear hb9 hs9
        try go_wp2_with fail
        refine hK.out _ _ ?_ (fun hHeld_12 => ?_)
        · exact HS0.out _ H9.out
        clear hK K
        try simp only [Act.put, List.setIfInBounds_toArray, List.set_cons_zero, List.set_cons_succ]
        refine wpAnyH_ready (rs := [14]) (by kernel_rfl) (by simp) ?_
        refine AllReadyH.cons (o := { dst := some 58, op := Op.call { callee := Callee.value (Operand.func 19), args := #[Operand.tmp 56, Operand.tmp 57], argTypes := #[37, 37] }, type := 4, pos := "outright.go:99", after := #[{ on := 12, ground := Ground.data }, { on := 13, ground := Ground.data }, { on := 12, ground := Ground.chain }, { on := 10, ground := Ground.guard }], guard := some (10, false) }) rfl (fun K hK => ?_) AllReadyH.nil
        go_simp
        go_at_call 19
        refine Calls.mono SAM.out ?_
        rintro e w10 ⟨rfl, hb10⟩
        have H10 : Hid (Below w7.heap.size w7 w10) := H9.out.trans (hb10.mono H9.out.size)
        clear hb10 SAM
        try go_wp2_with fail
        refine hK.out _ _ ?_ (fun hHeld_14 => ?_)
        · exact HS0.out _ H10.out
        clear hK K
        try simp only [Act.put, List.setIfInBounds_toArray, List.set_cons_zero, List.set_cons_succ]
        refine wpAnyH_take (i := 15) (oi := { dst := some 59, op := Op.unOp UnOp.not 4 (Operand.tmp 58), type := 4, pos := "outright.go:99", after := #[{ on := 14, ground := Ground.data }, { on := 10, ground := Ground.guard }], guard := some (10, false) }) (v := ?_) rfl (by kernel_rfl) (by kernel_rfl) (by kernel_rfl) (fun _ _ _ h => h) (Or.inl ⟨by rfl, ?_⟩) hHeld_14 ?_
        rotate_left
        · (intro w hSw; (try dsimp only at hSw); go_simp; try with_reducible rfl)
        try simp only [Act.put, List.setIfInBounds_toArray, List.set_cons_zero, List.set_cons_succ]
        refine wpAnyH_take (i := 16) (oi := { dst := some 60, op := Op.pick (Operand.tmp 54) (Operand.const (Value.bool true)) (Operand.tmp 59), type := 4, pos := "outright.go:99", after := #[{ on := 10, ground := Ground.data }, { on := 15, ground := Ground.data }], guard := none }) (v := ?_) rfl (by kernel_rfl) (by kernel_rfl) (by kernel_rfl) (fun _ _ _ h => h) (Or.inl ⟨by rfl, ?_⟩) hHeld_14 ?_
        rotate_left
        · (intro w hSw; (try dsimp only at hSw); go_simp; try with_reducible rfl)
        try simp only [Act.put, List.setIfInBounds_toArray, List.set_cons_zero, List.set_cons_succ]
        refine wpAnyH_done (by kernel_rfl) ?_ _
        go_wp2_with fail
        go_meet
        exact ⟨by first | rfl | simp, H10.out⟩
      case rest => as_aux_lemma =>
        obtain ⟨rfl, hb8⟩ := hcut
        obtain ⟨w8, hw8⟩ : ∃ w8, w8 = wc := ⟨_, rfl⟩
        subst hw8
        have H8 : Hid (Below w7.heap.size w7 w8) := hb8.out
        clear hb8 MAY SCP
        go_upto_region 14 with fail
        go_cut [86] (fun v86 wx => v86 = .bool false ∧ Hid (Below w7.heap.size w7 wx))
        case first => as_aux_lemma =>
          have H9 : Hid (Below w7.heap.size w7 w8.drew) := H8.out.trans (fr_below_drewN (Below.refl _ _) 1)
          by_cases hE : EC = 0
          · subst hE
            have FF : Hid (FrameL w7 l1 m goal fh fp fg fn fk fz us) := FL.out.1 rfl
            have NED : Hid _ := needs_any w8.drew ah ap x.ea nh ch np cp ne x.ec ts m goal SL7.out.n FEW.out.1 FEW.out.2.2 (SL7.out.ha.under H9.out) SL7.out.k FEW.out.2.1 (SL7.out.hp.under H9.out) GO.out.1 (by have := GO.out.2.1; omega) (GO.out.2.2.1.under (R7.out.under H9.out).b)
            refine wp_region_held_drew (S := fun w' => (w'.cell? ⟨S, 0, none⟩ = some (.slice ah nh ch) ∧ w'.cell? ⟨S, 1, none⟩ = some (.slice ap np cp)) ∧ w'.cell? ⟨b, off + i * 5 + 4, none⟩ = some (.slice x.ea ne x.ec) ∧ w'.cell? ⟨F, 0, none⟩ = some (.slice fh fn fc) ∧ w'.cell? ⟨F, 1, none⟩ = some (.slice fp fk fd) ∧ w'.cell? ⟨F, 2, none⟩ = some (.slice fg fz ff)) (by kernel_rfl) ?_ (fun hHeld => ?_)
            · exact CL.out _ H9.out
            refine wpAnyH_take (i := 0) (oi := { dst := some 61, op := Op.move (Operand.tmp 7), type := 29, pos := "outright.go:102", after := #[], guard := none }) (v := ?_) rfl (by kernel_rfl) (by kernel_rfl) (by kernel_rfl) (fun _ _ _ h => h) (Or.inl ⟨by rfl, ?_⟩) hHeld ?_
            rotate_left
            · (intro w hSw; (try dsimp only at hSw); go_simp; try with_reducible rfl)
            try simp only [Act.put, List.setIfInBounds_toArray, List.set_cons_zero, List.set_cons_succ]
            refine wpAnyH_ready (rs := [1]) (by kernel_rfl) (by simp) ?_
            refine AllReadyH.cons (o := { dst := some 62, op := Op.call { callee := Callee.value (Operand.func 11), args := #[Operand.tmp 61], argTypes := #[29] }, type := 3, pos := "outright.go:102", after := #[{ on := 0, ground := Ground.data }], guard := none }) rfl (fun K hK => ?_) AllReadyH.nil
            go_simp
            go_at_call 11
            refine Calls.mono (NU.out _ _) ?_
            rintro e wz ⟨rfl, hwz⟩
            subst wz
            try go_wp2_with fail
            refine hK.out _ _ ?_ (fun hHeld_1 => ?_)
            · exact CL.out _ H9.out
            clear hK K
            try simp only [Act.put, List.setIfInBounds_toArray, List.set_cons_zero, List.set_cons_succ]
            refine wpAnyH_take (i := 2) (oi := { dst := some 63, op := Op.binOp BinOp.eql 3 (Operand.tmp 62) (Operand.const (Value.int IntKind.i64 0)) 3, type := 4, pos := "outright.go:102", after := #[{ on := 1, ground := Ground.data }], guard := none }) (v := ?_) rfl (by kernel_rfl) (by kernel_rfl) (by kernel_rfl) (fun _ _ _ h => h) (Or.inl ⟨by rfl, ?_⟩) hHeld_1 ?_
            rotate_left
            · (intro w hSw; (try dsimp only at hSw); go_simp; try with_reducible rfl)
            try simp only [Act.put, List.setIfInBounds_toArray, List.set_cons_zero, List.set_cons_succ]
            refine wpAnyH_take (i := 3) (oi := { dst := some 64, op := Op.move (Operand.tmp 63), type := 4, pos := "outright.go:102", after := #[{ on := 2, ground := Ground.data }, { on := 1, ground := Ground.chain }], guard := none }) (v := ?_) rfl (by kernel_rfl) (by kernel_rfl) (by kernel_rfl) (fun _ _ _ h => h) (Or.inl ⟨by rfl, ?_⟩) hHeld_1 ?_
            rotate_left
            · (intro w hSw; (try dsimp only at hSw); go_simp; try with_reducible rfl)
            try simp only [Act.put, List.setIfInBounds_toArray, List.set_cons_zero, List.set_cons_succ]
            refine wpAnyH_take (i := 4) (oi := { dst := some 65, op := Op.load 47 (Operand.tmp 6), type := 47, pos := "outright.go:102", after := #[{ on := 3, ground := Ground.guard }], guard := some (3, true) }) (v := ?_) rfl (by kernel_rfl) (by kernel_rfl) (by kernel_rfl) (fun _ _ _ h => h) (Or.inl ⟨by rfl, ?_⟩) hHeld_1 ?_
            rotate_left
            · (intro w hSw; (try dsimp only at hSw); go_simp; try with_reducible rfl)
            try simp only [Act.put, List.setIfInBounds_toArray, List.set_cons_zero, List.set_cons_succ]
            refine wpAnyH_take (i := 5) (oi := { dst := some 66, op := Op.load 37 (Operand.tmp 5), type := 37, pos := "outright.go:102", after := #[{ on := 3, ground := Ground.guard }], guard := some (3, true) }) (v := ?_) rfl (by kernel_rfl) (by kernel_rfl) (by kernel_rfl) (fun _ _ _ h => h) (Or.inl ⟨by rfl, ?_⟩) hHeld_1 ?_
            rotate_left
            · (intro w hSw; (try dsimp only at hSw); go_simp; try with_reducible rfl)
            try simp only [Act.put, List.setIfInBounds_toArray, List.set_cons_zero, List.set_cons_succ]
            refine wpAnyH_take (i := 6) (oi := { dst := some 67, op := Op.move (Operand.tmp 0), type := 40, pos := "outright.go:102", after := #[{ on := 3, ground := Ground.guard }], guard := some (3, true) }) (v := ?_) rfl (by kernel_rfl) (by kernel_rfl) (by kernel_rfl) (fun _ _ _ h => h) (Or.inl ⟨by rfl, ?_⟩) hHeld_1 ?_
            rotate_left
            · (intro w hSw; (try dsimp only at hSw); go_simp; try with_reducible rfl)
            try simp only [Act.put, List.setIfInBounds_toArray, List.set_cons_zero, List.set_cons_succ]
            refine wpAnyH_take (i := 7) (oi := { dst := some 68, op := Op.move (Operand.tmp 4), type := 3, pos := "outright.go:102", after := #[{ on := 3, ground := Ground.guard }], guard := some (3, true) }) (v := ?_) rfl (by kernel_rfl) (by kernel_rfl) (by kernel_rfl) (fun _ _ _ h => h) (Or.inl ⟨by rfl, ?_⟩) hHeld_1 ?_
            rotate_left
            · (intro w hSw; (try dsimp only at hSw); go_simp; try with_reducible rfl)
            try simp only [Act.put, List.setIfInBounds_toArray, List.set_cons_zero, List.set_cons_succ]
            refine wpAnyH_take (i := 8) (oi := { dst := some 69, op := Op.indexAddr 40 (Operand.tmp 67) (Operand.tmp 68), type := 0, pos := "outright.go:102", after := #[{ on := 6, ground := Ground.data }, { on := 7, ground := Ground.data }, { on := 3, ground := Ground.guard }], guard := some (3, true) }) (v := ?_) rfl (by kernel_rfl) (by kernel_rfl) (by kernel_rfl) (fun _ _ _ h => h) (Or.inl ⟨by rfl, ?_⟩) hHeld_1 ?_
            rotate_left
            · (intro w hSw; (try dsimp only at hSw); go_simp; try with_reducible rfl)
            try simp only [Act.put, List.setIfInBounds_toArray, List.set_cons_zero, List.set_cons_succ]
            refine wpAnyH_take (i := 9) (oi := { dst := some 70, op := Op.fieldAddr 45 (Operand.tmp 69) 4, type := 0, pos := "outright.go:102", after := #[{ on := 8, ground := Ground.data }, { on := 3, ground := Ground.guard }], guard := some (3, true) }) (v := ?_) rfl (by kernel_rfl) (by kernel_rfl) (by kernel_rfl) (fun _ _ _ h => h) (Or.inl ⟨by rfl, ?_⟩) hHeld_1 ?_
            rotate_left
            · (intro w hSw; (try dsimp only at hSw); go_simp; try with_reducible rfl)
            try simp only [Act.put, List.setIfInBounds_toArray, List.set_cons_zero, List.set_cons_succ]
            refine wpAnyH_take (i := 10) (oi := { dst := some 71, op := Op.load 32 (Operand.tmp 70), type := 32, pos := "outright.go:102", after := #[{ on := 9, ground := Ground.data }, { on := 3, ground := Ground.guard }], guard := some (3, true) }) (v := ?_) rfl (by kernel_rfl) (by kernel_rfl) (by kernel_rfl) (fun _ _ _ h => h) (Or.inl ⟨by rfl, ?_⟩) hHeld_1 ?_
            rotate_left
            · (intro w hSw; (try dsimp only at hSw); go_simp; try with_reducible rfl)
            try simp only [Act.put, List.setIfInBounds_toArray, List.set_cons_zero, List.set_cons_succ]
            refine wpAnyH_ready (rs := [11]) (by kernel_rfl) (by simp) ?_
            refine AllReadyH.cons (o := { dst := some 72, op := Op.call { callee := Callee.value (Operand.func 23), args := #[Operand.tmp 66, Operand.tmp 71], argTypes := #[37, 32] }, type := 47, pos := "outright.go:102", after := #[{ on := 5, ground := Ground.data }, { on := 10, ground := Ground.data }, { on := 3, ground := Ground.chain }, { on := 3, ground := Ground.guard }], guard := some (3, true) }) rfl (fun K hK => ?_) AllReadyH.nil
            go_simp
            go_at_call 23
            refine Calls.mono NED.out ?_
            rintro e w10 ⟨hb10, na, nn, nc, pa, pn, pc, vs, rfl, hv1, hv2, hv3, hv4, hv5⟩
            have H10 : Hid (Below w7.heap.size w7 w10) := H9.out.trans (hb10.mono H9.out.size)
            rw [SL7.out.h] at hv2 hv4 hv5
            have en : nn = fn := by have h1 := congrArg List.length hv2; have h2 := congrArg List.length FF.out.h; rw [List.length_map] at h1 h2; have h3 := FF.out.n; omega
            have ek : pn = fk := by rw [← hv4, FF.out.k]
            subst en
            subst ek
            have hle : us.length ≤ ts.length := by have h2 := congrArg List.length FF.out.h; rw [List.length_map] at h2; rw [h2, ← SL7.out.h]; unfold needH; exact Nat.le_trans (List.length_filter_le _ _) (by rw [List.length_map]; exact Nat.le_refl _)
            have SAM : Hid _ := sameFrame_t w10 fh na fp pa fg x.ea nn pn fz fc fd nc pc ff x.ec us vs (needQ (hypsA l1) goal m) goal FF.out.n (by have h1 := FF.out.n; have h2 := SL7.out.n; have h3 := FEW.out.1; omega) (fun y hy => by have h1 : y.h ∈ hypsA l1 := (by have h0 : y.h ∈ us.map (·.h) := List.mem_map.2 ⟨y, hy, rfl⟩; rw [FF.out.h] at h0; exact (List.mem_filter.1 h0).1); have := (G1.out.wf _ h1).2.2; omega) (FF.out.h.trans hv2.symm) (FF.out.ha.under H10.out) hv3 FF.out.k (by have h1 := FF.out.k; have h2 : (needQ (hypsA l1) goal m).length ≤ m.length := List.length_filter_le _ _; have h3 := SL7.out.k; have h4 := FEW.out.2.1; omega) (FF.out.hp.under H10.out) hv5 FF.out.z (by have h1 := FF.out.z; have h2 := GO.out.1; have h3 := GO.out.2.1; omega) (FF.out.hg.under H10.out) (GO.out.2.2.1.under (R7.out.under H10.out).b)
            have EZ : Hid (fz = ne) := by show fz = ne; rw [← FF.out.z, GO.out.1]
            clear hb10 hv1 hv2 hv3 hv4 hv5 NED hle
            try go_wp2_with fail
            refine hK.out _ _ ?_ (fun hHeld_11 => ?_)
            · exact CL.out _ H10.out
            clear hK K
            try simp only [Act.put, List.setIfInBounds_toArray, List.set_cons_zero, List.set_cons_succ]
            refine wpAnyH_ready (rs := [12]) (by kernel_rfl) (by simp) ?_
            refine AllReadyH.cons (o := { dst := some 73, op := Op.call { callee := Callee.value (Operand.func 22), args := #[Operand.tmp 65, Operand.tmp 72], argTypes := #[47, 47] }, type := 4, pos := "outright.go:102", after := #[{ on := 4, ground := Ground.data }, { on := 11, ground := Ground.data }, { on := 11, ground := Ground.chain }, { on := 3, ground := Ground.guard }], guard := some (3, true) }) rfl (fun K hK => ?_) AllReadyH.nil
            have ez := EZ.out
            subst ez
            go_simp
            go_at_call 22
            refine Calls.mono SAM.out ?_
            rintro e w11 ⟨rfl, hb11⟩
            have H11 : Hid (Below w7.heap.size w7 w11) := H10.out.trans (hb11.mono H10.out.size)
            clear hb11 SAM
            try go_wp2_with fail
            refine hK.out _ _ ?_ (fun hHeld_12 => ?_)
            · exact CL.out _ H11.out
            clear hK K
            try simp only [Act.put, List.setIfInBounds_toArray, List.set_cons_zero, List.set_cons_succ]
            refine wpAnyH_take (i := 13) (oi := { dst := some 74, op := Op.unOp UnOp.not 4 (Operand.tmp 73), type := 4, pos := "outright.go:102", after := #[{ on := 12, ground := Ground.data }, { on := 3, ground := Ground.guard }], guard := some (3, true) }) (v := ?_) rfl (by kernel_rfl) (by kernel_rfl) (by kernel_rfl) (fun _ _ _ h => h) (Or.inl ⟨by rfl, ?_⟩) hHeld_12 ?_
            rotate_left
            · (intro w hSw; (try dsimp only at hSw); go_simp; try with_reducible rfl)
            try simp only [Act.put, List.setIfInBounds_toArray, List.set_cons_zero, List.set_cons_succ]
            refine wpAnyH_take (i := 14) (oi := { dst := some 75, op := Op.pick (Operand.tmp 64) (Operand.tmp 74) (Operand.const (Value.bool false)), type := 4, pos := "outright.go:102", after := #[{ on := 3, ground := Ground.data }, { on := 13, ground := Ground.data }], guard := none }) (v := ?_) rfl (by kernel_rfl) (by kernel_rfl) (by kernel_rfl) (fun _ _ _ h => h) (Or.inl ⟨by rfl, ?_⟩) hHeld_12 ?_
            rotate_left
            · (intro w hSw; (try dsimp only at hSw); go_simp; try with_reducible rfl)
            try simp only [Act.put, List.setIfInBounds_toArray, List.set_cons_zero, List.set_cons_succ]
            refine wpAnyH_take (i := 15) (oi := { dst := some 76, op := Op.move (Operand.tmp 75), type := 4, pos := "outright.go:102", after := #[{ on := 14, ground := Ground.data }, { on := 12, ground := Ground.chain }], guard := none }) (v := ?_) rfl (by kernel_rfl) (by kernel_rfl) (by kernel_rfl) (fun _ _ _ h => h) (Or.inl ⟨by rfl, ?_⟩) hHeld_12 ?_
            rotate_left
            · (intro w hSw; (try dsimp only at hSw); go_simp; try with_reducible rfl)
            try simp only [Act.put, List.setIfInBounds_toArray, List.set_cons_zero, List.set_cons_succ]
            refine wpAnyH_take (i := 16) (oi := { dst := some 77, op := Op.move (Operand.tmp 7), type := 29, pos := "outright.go:102", after := #[{ on := 15, ground := Ground.guard }], guard := some (15, false) }) (v := ?_) rfl (by kernel_rfl) (by kernel_rfl) (by kernel_rfl) (fun _ _ _ h => h) (Or.inl ⟨by rfl, ?_⟩) hHeld_12 ?_
            rotate_left
            · (intro w hSw; (try dsimp only at hSw); go_simp; try with_reducible rfl)
            try simp only [Act.put, List.setIfInBounds_toArray, List.set_cons_zero, List.set_cons_succ]
            refine wpAnyH_ready (rs := [17]) (by kernel_rfl) (by simp) ?_
            refine AllReadyH.cons (o := { dst := some 78, op := Op.call { callee := Callee.value (Operand.func 11), args := #[Operand.tmp 77], argTypes := #[29] }, type := 3, pos := "outright.go:102", after := #[{ on := 16, ground := Ground.data }, { on := 15, ground := Ground.chain }, { on := 15, ground := Ground.guard }], guard := some (15, false) }) rfl (fun K hK => ?_) AllReadyH.nil
            go_simp
            go_at_call 11
            refine Calls.mono (NU.out _ _) ?_
            rintro e wz ⟨rfl, hwz⟩
            subst wz
            try go_wp2_with fail
            refine hK.out _ _ ?_ (fun hHeld_17 => ?_)
            · exact CL.out _ H11.out
            clear hK K
            try simp only [Act.put, List.setIfInBounds_toArray, List.set_cons_zero, List.set_cons_succ]
            refine wpAnyH_take (i := 18) (oi := { dst := some 79, op := Op.binOp BinOp.neq 3 (Operand.tmp 78) (Operand.const (Value.int IntKind.i64 0)) 3, type := 4, pos := "outright.go:102", after := #[{ on := 17, ground := Ground.data }, { on := 15, ground := Ground.guard }], guard := some (15, false) }) (v := ?_) rfl (by kernel_rfl) (by kernel_rfl) (by kernel_rfl) (fun _ _ _ h => h) (Or.inl ⟨by rfl, ?_⟩) hHeld_17 ?_
            rotate_left
            · (intro w hSw; (try dsimp only at hSw); go_simp; try with_reducible rfl)
            try simp only [Act.put, List.setIfInBounds_toArray, List.set_cons_zero, List.set_cons_succ]
            refine wpAnyH_take (i := 19) (oi := { dst := some 80, op := Op.move (Operand.tmp 79), type := 4, pos := "outright.go:102", after := #[{ on := 18, ground := Ground.data }, { on := 17, ground := Ground.chain }, { on := 15, ground := Ground.guard }], guard := some (15, false) }) (v := ?_) rfl (by kernel_rfl) (by kernel_rfl) (by kernel_rfl) (fun _ _ _ h => h) (Or.inl ⟨by rfl, ?_⟩) hHeld_17 ?_
            rotate_left
            · (intro w hSw; (try dsimp only at hSw); go_simp; try with_reducible rfl)
            try simp only [Act.put, List.setIfInBounds_toArray, List.set_cons_zero, List.set_cons_succ]
            refine wpAnyH_take (i := 20) (oi := { dst := some 81, op := Op.load 47 (Operand.tmp 6), type := 47, pos := "outright.go:102", after := #[{ on := 19, ground := Ground.guard }], guard := some (19, true) }) (v := undef) rfl (by kernel_rfl) (by kernel_rfl) (by kernel_rfl) (fun _ _ _ h => h) (Or.inr ⟨by rfl, rfl⟩) hHeld_17 ?_
            try simp only [Act.put, List.setIfInBounds_toArray, List.set_cons_zero, List.set_cons_succ]
            refine wpAnyH_take (i := 21) (oi := { dst := some 82, op := Op.build 47 #[], type := 47, pos := "outright.go:102", after := #[{ on := 19, ground := Ground.guard }], guard := some (19, true) }) (v := undef) rfl (by kernel_rfl) (by kernel_rfl) (by kernel_rfl) (fun _ _ _ h => h) (Or.inr ⟨by rfl, rfl⟩) hHeld_17 ?_
            try simp only [Act.put, List.setIfInBounds_toArray, List.set_cons_zero, List.set_cons_succ]
            refine wpAnyH_take (i := 22) (oi := { dst := some 83, op := Op.call { callee := Callee.value (Operand.func 22), args := #[Operand.tmp 81, Operand.tmp 82], argTypes := #[47, 47] }, type := 4, pos := "outright.go:102", after := #[{ on := 20, ground := Ground.data }, { on := 21, ground := Ground.data }, { on := 19, ground := Ground.chain }, { on := 19, ground := Ground.guard }], guard := some (19, true) }) (v := undef) rfl (by kernel_rfl) (by kernel_rfl) (by kernel_rfl) (fun _ _ _ h => h) (Or.inr ⟨by rfl, rfl⟩) hHeld_17 ?_
            try simp only [Act.put, List.setIfInBounds_toArray, List.set_cons_zero, List.set_cons_succ]
            refine wpAnyH_take (i := 23) (oi := { dst := some 84, op := Op.unOp UnOp.not 4 (Operand.tmp 83), type := 4, pos := "outright.go:102", after := #[{ on := 22, ground := Ground.data }, { on := 19, ground := Ground.guard }], guard := some (19, true) }) (v := undef) rfl (by kernel_rfl) (by kernel_rfl) (by kernel_rfl) (fun _ _ _ h => h) (Or.inr ⟨by rfl, rfl⟩) hHeld_17 ?_
            try simp only [Act.put, List.setIfInBounds_toArray, List.set_cons_zero, List.set_cons_succ]
            refine wpAnyH_take (i := 24) (oi := { dst := some 85, op := Op.pick (Operand.tmp 80) (Operand.tmp 84) (Operand.const (Value.bool false)), type := 4, pos := "outright.go:102", after := #[{ on := 19, ground := Ground.data }, { on := 23, ground := Ground.data }, { on := 15, ground := Ground.guard }], guard := some (15, false) }) (v := ?_) rfl (by kernel_rfl) (by kernel_rfl) (by kernel_rfl) (fun _ _ _ h => h) (Or.inl ⟨by rfl, ?_⟩) hHeld_17 ?_
            rotate_left
            · (intro w hSw; (try dsimp only at hSw); go_simp; try with_reducible rfl)
            try simp only [Act.put, List.setIfInBounds_toArray, List.set_cons_zero, List.set_cons_succ]
            refine wpAnyH_take (i := 25) (oi := { dst := some 86, op := Op.pick (Operand.tmp 76) (Operand.const (Value.bool true)) (Operand.tmp 85), type := 4, pos := "outright.go:102", after := #[{ on := 15, ground := Ground.data }, { on := 24, ground := Ground.data }], guard := none }) (v := ?_) rfl (by kernel_rfl) (by kernel_rfl) (by kernel_rfl) (fun _ _ _ h => h) (Or.inl ⟨by rfl, ?_⟩) hHeld_17 ?_
            rotate_left
            · (intro w hSw; (try dsimp only at hSw); go_simp; try with_reducible rfl)
            try simp only [Act.put, List.setIfInBounds_toArray, List.set_cons_zero, List.set_cons_succ]
            refine wpAnyH_done (by kernel_rfl) ?_ _
            go_wp2_with fail
            go_meet
            exact ⟨by first | rfl | simp, H11.out⟩
          · obtain ⟨z1, z2, z3⟩ := FL.out.2 hE
            subst z1
            subst z2
            subst z3
            have SAM : Hid _ := sameFrame_t w8.drew fh none fp none fg none 0 0 0 fc fd 0 0 ff 0 [] [] [] [] rfl (by omega) (by simp) rfl (fun i y h => by simp at h) (fun i y h => by simp at h) rfl (by omega) (fun i y h => by simp at h) (fun i y h => by simp at h) rfl (by omega) (fun i y h => by simp at h) (fun i y h => by simp at h)
            have hE2 : (EC == 0) = false := by simpa using hE
            have hE3 : (EC != 0) = true := by simpa using hE
            have hE4 : decide (EC = 0) = false := by simpa using hE
            refine wp_region_held_drew (S := fun w' => (w'.cell? ⟨S, 0, none⟩ = some (.slice ah nh ch) ∧ w'.cell? ⟨S, 1, none⟩ = some (.slice ap np cp)) ∧ w'.cell? ⟨b, off + i * 5 + 4, none⟩ = some (.slice x.ea ne x.ec) ∧ w'.cell? ⟨F, 0, none⟩ = some (.slice fh 0 fc) ∧ w'.cell? ⟨F, 1, none⟩ = some (.slice fp 0 fd) ∧ w'.cell? ⟨F, 2, none⟩ = some (.slice fg 0 ff)) (by kernel_rfl) ?_ (fun hHeld => ?_)
            · exact CL.out _ H9.out
            refine wpAnyH_take (i := 0) (oi := { dst := some 61, op := Op.move (Operand.tmp 7), type := 29, pos := "outright.go:102", after := #[], guard := none }) (v := ?_) rfl (by kernel_rfl) (by kernel_rfl) (by kernel_rfl) (fun _ _ _ h => h) (Or.inl ⟨by rfl, ?_⟩) hHeld ?_
            rotate_left
            · (intro w hSw; (try dsimp only at hSw); go_simp; try with_reducible rfl)
            try simp only [Act.put, List.setIfInBounds_toArray, List.set_cons_zero, List.set_cons_succ]
            refine wpAnyH_ready (rs := [1]) (by kernel_rfl) (by simp) ?_
            refine AllReadyH.cons (o := { dst := some 62, op := Op.call { callee := Callee.value (Operand.func 11), args := #[Operand.tmp 61], argTypes := #[29] }, type := 3, pos := "outright.go:102", after := #[{ on := 0, ground := Ground.data }], guard := none }) rfl (fun K hK => ?_) AllReadyH.nil
            go_simp
            go_at_call 11
            refine Calls.mono (NU.out _ _) ?_
            rintro e wz ⟨rfl, hwz⟩
            subst wz
            try go_wp2_with fail
            refine hK.out _ _ ?_ (fun hHeld_1 => ?_)
            · exact CL.out _ H9.out
            clear hK K
            try simp only [Act.put, List.setIfInBounds_toArray, List.set_cons_zero, List.set_cons_succ]
            refine wpAnyH_take (i := 2) (oi := { dst := some 63, op := Op.binOp BinOp.eql 3 (Operand.tmp 62) (Operand.const (Value.int IntKind.i64 0)) 3, type := 4, pos := "outright.go:102", after := #[{ on := 1, ground := Ground.data }], guard := none }) (v := ?_) rfl (by kernel_rfl) (by kernel_rfl) (by kernel_rfl) (fun _ _ _ h => h) (Or.inl ⟨by rfl, ?_⟩) hHeld_1 ?_
            rotate_left
            · (intro w hSw; (try dsimp only at hSw); go_simp; try with_reducible rfl)
            try simp only [Act.put, List.setIfInBounds_toArray, List.set_cons_zero, List.set_cons_succ]
            refine wpAnyH_take (i := 3) (oi := { dst := some 64, op := Op.move (Operand.tmp 63), type := 4, pos := "outright.go:102", after := #[{ on := 2, ground := Ground.data }, { on := 1, ground := Ground.chain }], guard := none }) (v := ?_) rfl (by kernel_rfl) (by kernel_rfl) (by kernel_rfl) (fun _ _ _ h => h) (Or.inl ⟨by rfl, ?_⟩) hHeld_1 ?_
            rotate_left
            · (intro w hSw; (try dsimp only at hSw); go_simp; try with_reducible rfl)
            try simp only [Act.put, List.setIfInBounds_toArray, List.set_cons_zero, List.set_cons_succ]
            refine wpAnyH_take (i := 4) (oi := { dst := some 65, op := Op.load 47 (Operand.tmp 6), type := 47, pos := "outright.go:102", after := #[{ on := 3, ground := Ground.guard }], guard := some (3, true) }) (v := undef) rfl (by kernel_rfl) (by kernel_rfl) (by kernel_rfl) (fun _ _ _ h => h) (Or.inr ⟨by rfl, rfl⟩) hHeld_1 ?_
            try simp only [Act.put, List.setIfInBounds_toArray, List.set_cons_zero, List.set_cons_succ]
            refine wpAnyH_take (i := 5) (oi := { dst := some 66, op := Op.load 37 (Operand.tmp 5), type := 37, pos := "outright.go:102", after := #[{ on := 3, ground := Ground.guard }], guard := some (3, true) }) (v := undef) rfl (by kernel_rfl) (by kernel_rfl) (by kernel_rfl) (fun _ _ _ h => h) (Or.inr ⟨by rfl, rfl⟩) hHeld_1 ?_
            try simp only [Act.put, List.setIfInBounds_toArray, List.set_cons_zero, List.set_cons_succ]
            refine wpAnyH_take (i := 6) (oi := { dst := some 67, op := Op.move (Operand.tmp 0), type := 40, pos := "outright.go:102", after := #[{ on := 3, ground := Ground.guard }], guard := some (3, true) }) (v := undef) rfl (by kernel_rfl) (by kernel_rfl) (by kernel_rfl) (fun _ _ _ h => h) (Or.inr ⟨by rfl, rfl⟩) hHeld_1 ?_
            try simp only [Act.put, List.setIfInBounds_toArray, List.set_cons_zero, List.set_cons_succ]
            refine wpAnyH_take (i := 7) (oi := { dst := some 68, op := Op.move (Operand.tmp 4), type := 3, pos := "outright.go:102", after := #[{ on := 3, ground := Ground.guard }], guard := some (3, true) }) (v := undef) rfl (by kernel_rfl) (by kernel_rfl) (by kernel_rfl) (fun _ _ _ h => h) (Or.inr ⟨by rfl, rfl⟩) hHeld_1 ?_
            try simp only [Act.put, List.setIfInBounds_toArray, List.set_cons_zero, List.set_cons_succ]
            refine wpAnyH_take (i := 8) (oi := { dst := some 69, op := Op.indexAddr 40 (Operand.tmp 67) (Operand.tmp 68), type := 0, pos := "outright.go:102", after := #[{ on := 6, ground := Ground.data }, { on := 7, ground := Ground.data }, { on := 3, ground := Ground.guard }], guard := some (3, true) }) (v := undef) rfl (by kernel_rfl) (by kernel_rfl) (by kernel_rfl) (fun _ _ _ h => h) (Or.inr ⟨by rfl, rfl⟩) hHeld_1 ?_
            try simp only [Act.put, List.setIfInBounds_toArray, List.set_cons_zero, List.set_cons_succ]
            refine wpAnyH_take (i := 9) (oi := { dst := some 70, op := Op.fieldAddr 45 (Operand.tmp 69) 4, type := 0, pos := "outright.go:102", after := #[{ on := 8, ground := Ground.data }, { on := 3, ground := Ground.guard }], guard := some (3, true) }) (v := undef) rfl (by kernel_rfl) (by kernel_rfl) (by kernel_rfl) (fun _ _ _ h => h) (Or.inr ⟨by rfl, rfl⟩) hHeld_1 ?_
            try simp only [Act.put, List.setIfInBounds_toArray, List.set_cons_zero, List.set_cons_succ]
            refine wpAnyH_take (i := 10) (oi := { dst := some 71, op := Op.load 32 (Operand.tmp 70), type := 32, pos := "outright.go:102", after := #[{ on := 9, ground := Ground.data }, { on := 3, ground := Ground.guard }], guard := some (3, true) }) (v := undef) rfl (by kernel_rfl) (by kernel_rfl) (by kernel_rfl) (fun _ _ _ h => h) (Or.inr ⟨by rfl, rfl⟩) hHeld_1 ?_
            try simp only [Act.put, List.setIfInBounds_toArray, List.set_cons_zero, List.set_cons_succ]
            refine wpAnyH_take (i := 11) (oi := { dst := some 72, op := Op.call { callee := Callee.value (Operand.func 23), args := #[Operand.tmp 66, Operand.tmp 71], argTypes := #[37, 32] }, type := 47, pos := "outright.go:102", after := #[{ on := 5, ground := Ground.data }, { on := 10, ground := Ground.data }, { on := 3, ground := Ground.chain }, { on := 3, ground := Ground.guard }], guard := some (3, true) }) (v := undef) rfl (by kernel_rfl) (by kernel_rfl) (by kernel_rfl) (fun _ _ _ h => h) (Or.inr ⟨by rfl, rfl⟩) hHeld_1 ?_
            try simp only [Act.put, List.setIfInBounds_toArray, List.set_cons_zero, List.set_cons_succ]
            refine wpAnyH_take (i := 12) (oi := { dst := some 73, op := Op.call { callee := Callee.value (Operand.func 22), args := #[Operand.tmp 65, Operand.tmp 72], argTypes := #[47, 47] }, type := 4, pos := "outright.go:102", after := #[{ on := 4, ground := Ground.data }, { on := 11, ground := Ground.data }, { on := 11, ground := Ground.chain }, { on := 3, ground := Ground.guard }], guard := some (3, true) }) (v := undef) rfl (by kernel_rfl) (by kernel_rfl) (by kernel_rfl) (fun _ _ _ h => h) (Or.inr ⟨by rfl, rfl⟩) hHeld_1 ?_
            try simp only [Act.put, List.setIfInBounds_toArray, List.set_cons_zero, List.set_cons_succ]
            refine wpAnyH_take (i := 13) (oi := { dst := some 74, op := Op.unOp UnOp.not 4 (Operand.tmp 73), type := 4, pos := "outright.go:102", after := #[{ on := 12, ground := Ground.data }, { on := 3, ground := Ground.guard }], guard := some (3, true) }) (v := undef) rfl (by kernel_rfl) (by kernel_rfl) (by kernel_rfl) (fun _ _ _ h => h) (Or.inr ⟨by rfl, rfl⟩) hHeld_1 ?_
            try simp only [Act.put, List.setIfInBounds_toArray, List.set_cons_zero, List.set_cons_succ]
            refine wpAnyH_take (i := 14) (oi := { dst := some 75, op := Op.pick (Operand.tmp 64) (Operand.tmp 74) (Operand.const (Value.bool false)), type := 4, pos := "outright.go:102", after := #[{ on := 3, ground := Ground.data }, { on := 13, ground := Ground.data }], guard := none }) (v := ?_) rfl (by kernel_rfl) (by kernel_rfl) (by kernel_rfl) (fun _ _ _ h => h) (Or.inl ⟨by rfl, ?_⟩) hHeld_1 ?_
            rotate_left
            · (intro w hSw; (try dsimp only at hSw); go_simp; try with_reducible rfl)
            try simp only [Act.put, List.setIfInBounds_toArray, List.set_cons_zero, List.set_cons_succ]
            refine wpAnyH_take (i := 15) (oi := { dst := some 76, op := Op.move (Operand.tmp 75), type := 4, pos := "outright.go:102", after := #[{ on := 14, ground := Ground.data }, { on := 12, ground := Ground.chain }], guard := none }) (v := ?_) rfl (by kernel_rfl) (by kernel_rfl) (by kernel_rfl) (fun _ _ _ h => h) (Or.inl ⟨by rfl, ?_⟩) hHeld_1 ?_
            rotate_left
            · (intro w hSw; (try dsimp only at hSw); go_simp; try with_reducible rfl)
            try simp only [Act.put, List.setIfInBounds_toArray, List.set_cons_zero, List.set_cons_succ]
            refine wpAnyH_take (i := 16) (oi := { dst := some 77, op := Op.move (Operand.tmp 7), type := 29, pos := "outright.go:102", after := #[{ on := 15, ground := Ground.guard }], guard := some (15, false) }) (v := ?_) rfl (by kernel_rfl) (by kernel_rfl) (by kernel_rfl) (fun _ _ _ h => h) (Or.inl ⟨by rfl, ?_⟩) hHeld_1 ?_
            rotate_left
            · (intro w hSw; (try dsimp only at hSw); go_simp; try with_reducible rfl)
            try simp only [Act.put, List.setIfInBounds_toArray, List.set_cons_zero, List.set_cons_succ]
            refine wpAnyH_ready (rs := [17]) (by kernel_rfl) (by simp) ?_
            refine AllReadyH.cons (o := { dst := some 78, op := Op.call { callee := Callee.value (Operand.func 11), args := #[Operand.tmp 77], argTypes := #[29] }, type := 3, pos := "outright.go:102", after := #[{ on := 16, ground := Ground.data }, { on := 15, ground := Ground.chain }, { on := 15, ground := Ground.guard }], guard := some (15, false) }) rfl (fun K hK => ?_) AllReadyH.nil
            go_simp
            go_at_call 11
            refine Calls.mono (NU.out _ _) ?_
            rintro e wz ⟨rfl, hwz⟩
            subst wz
            try go_wp2_with fail
            refine hK.out _ _ ?_ (fun hHeld_17 => ?_)
            · exact CL.out _ H9.out
            clear hK K
            try simp only [Act.put, List.setIfInBounds_toArray, List.set_cons_zero, List.set_cons_succ]
            refine wpAnyH_take (i := 18) (oi := { dst := some 79, op := Op.binOp BinOp.neq 3 (Operand.tmp 78) (Operand.const (Value.int IntKind.i64 0)) 3, type := 4, pos := "outright.go:102", after := #[{ on := 17, ground := Ground.data }, { on := 15, ground := Ground.guard }], guard := some (15, false) }) (v := ?_) rfl (by kernel_rfl) (by kernel_rfl) (by kernel_rfl) (fun _ _ _ h => h) (Or.inl ⟨by rfl, ?_⟩) hHeld_17 ?_
            rotate_left
            · (intro w hSw; (try dsimp only at hSw); go_simp; try with_reducible rfl)
            try simp only [Act.put, List.setIfInBounds_toArray, List.set_cons_zero, List.set_cons_succ]
            refine wpAnyH_take (i := 19) (oi := { dst := some 80, op := Op.move (Operand.tmp 79), type := 4, pos := "outright.go:102", after := #[{ on := 18, ground := Ground.data }, { on := 17, ground := Ground.chain }, { on := 15, ground := Ground.guard }], guard := some (15, false) }) (v := ?_) rfl (by kernel_rfl) (by kernel_rfl) (by kernel_rfl) (fun _ _ _ h => h) (Or.inl ⟨by rfl, ?_⟩) hHeld_17 ?_
            rotate_left
            · (intro w hSw; (try dsimp only at hSw); go_simp; try with_reducible rfl)
            try simp only [Act.put, List.setIfInBounds_toArray, List.set_cons_zero, List.set_cons_succ]
            refine wpAnyH_take (i := 20) (oi := { dst := some 81, op := Op.load 47 (Operand.tmp 6), type := 47, pos := "outright.go:102", after := #[{ on := 19, ground := Ground.guard }], guard := some (19, true) }) (v := ?_) rfl (by kernel_rfl) (by kernel_rfl) (by kernel_rfl) (fun _ _ _ h => h) (Or.inl ⟨by rfl, ?_⟩) hHeld_17 ?_
            rotate_left
            · (intro w hSw; (try dsimp only at hSw); go_simp; try with_reducible rfl)
            try simp only [Act.put, List.setIfInBounds_toArray, List.set_cons_zero, List.set_cons_succ]
            refine wpAnyH_take (i := 21) (oi := { dst := some 82, op := Op.build 47 #[], type := 47, pos := "outright.go:102", after := #[{ on := 19, ground := Ground.guard }], guard := some (19, true) }) (v := ?_) rfl (by kernel_rfl) (by kernel_rfl) (by kernel_rfl) (fun _ _ _ h => h) (Or.inl ⟨by rfl, ?_⟩) hHeld_17 ?_
            rotate_left
            · (intro w hSw; (try dsimp only at hSw); go_simp; try with_reducible rfl)
            try simp only [Act.put, List.setIfInBounds_toArray, List.set_cons_zero, List.set_cons_succ]
            refine wpAnyH_ready (rs := [22]) (by kernel_rfl) (by simp) ?_
            refine AllReadyH.cons (o := { dst := some 83, op := Op.call { callee := Callee.value (Operand.func 22), args := #[Operand.tmp 81, Operand.tmp 82], argTypes := #[47, 47] }, type := 4, pos := "outright.go:102", after := #[{ on := 20, ground := Ground.data }, { on := 21, ground := Ground.data }, { on := 19, ground := Ground.chain }, { on := 19, ground := Ground.guard }], guard := some (19, true) }) rfl (fun K hK => ?_) AllReadyH.nil
            go_simp
            go_at_call 22
            refine Calls.mono SAM.out ?_
            rintro e w11 ⟨rfl, hb11⟩
            have H11 : Hid (Below w7.heap.size w7 w11) := H9.out.trans (hb11.mono H9.out.size)
            clear hb11 SAM
            try go_wp2_with fail
            refine hK.out _ _ ?_ (fun hHeld_22 => ?_)
            · exact CL.out _ H11.out
            clear hK K
            try simp only [Act.put, List.setIfInBounds_toArray, List.set_cons_zero, List.set_cons_succ]
            refine wpAnyH_take (i := 23) (oi := { dst := some 84, op := Op.unOp UnOp.not 4 (Operand.tmp 83), type := 4, pos := "outright.go:102", after := #[{ on := 22, ground := Ground.data }, { on := 19, ground := Ground.guard }], guard := some (19, true) }) (v := ?_) rfl (by kernel_rfl) (by kernel_rfl) (by kernel_rfl) (fun _ _ _ h => h) (Or.inl ⟨by rfl, ?_⟩) hHeld_22 ?_
            rotate_left
            · (intro w hSw; (try dsimp only at hSw); go_simp; try with_reducible rfl)
            try simp only [Act.put, List.setIfInBounds_toArray, List.set_cons_zero, List.set_cons_succ]
            refine wpAnyH_take (i := 24) (oi := { dst := some 85, op := Op.pick (Operand.tmp 80) (Operand.tmp 84) (Operand.const (Value.bool false)), type := 4, pos := "outright.go:102", after := #[{ on := 19, ground := Ground.data }, { on := 23, ground := Ground.data }, { on := 15, ground := Ground.guard }], guard := some (15, false) }) (v := ?_) rfl (by kernel_rfl) (by kernel_rfl) (by kernel_rfl) (fun _ _ _ h => h) (Or.inl ⟨by rfl, ?_⟩) hHeld_22 ?_
            rotate_left
            · (intro w hSw; (try dsimp only at hSw); go_simp; try with_reducible rfl)
            try simp only [Act.put, List.setIfInBounds_toArray, List.set_cons_zero, List.set_cons_succ]
            refine wpAnyH_take (i := 25) (oi := { dst := some 86, op := Op.pick (Operand.tmp 76) (Operand.const (Value.bool true)) (Operand.tmp 85), type := 4, pos := "outright.go:102", after := #[{ on := 15, ground := Ground.data }, { on := 24, ground := Ground.data }], guard := none }) (v := ?_) rfl (by kernel_rfl) (by kernel_rfl) (by kernel_rfl) (fun _ _ _ h => h) (Or.inl ⟨by rfl, ?_⟩) hHeld_22 ?_
            rotate_left
            · (intro w hSw; (try dsimp only at hSw); go_simp; try with_reducible rfl)
            try simp only [Act.put, List.setIfInBounds_toArray, List.set_cons_zero, List.set_cons_succ]
            refine wpAnyH_done (by kernel_rfl) ?_ _
            go_wp2_with fail
            go_meet
            exact ⟨by first | rfl | simp, H11.out⟩
        case rest => as_aux_lemma =>
          obtain ⟨rfl, hb9⟩ := hcut
          obtain ⟨w9, hw9⟩ : ∃ w9, w9 = wc := ⟨_, rfl⟩
          subst hw9
          have H9 : Hid (Below w7.heap.size w7 w9) := hb9.out
          clear hb9 FL HEC H8
          have hnh : nh ≤ 1048576 := FEW.out.1
          have hnp : np ≤ 1048576 := FEW.out.2.1
          go_wp2_with fail
          go_loopw [8] (fun v8 wx => ∃ k : Nat, k ≤ nh ∧ v8 = .int .i64 k ∧ Hid (Below w7.heap.size w7 wx)) (fun v8 _ => nh - (intOf v8).toNat)
          case atStart => exact ⟨0, Nat.zero_le _, rfl, H9.out⟩
          case round => as_aux_lemma =>
            obtain ⟨k, hk, rfl, hB⟩ := hrel
            clear H9
            have z0 : wr.cell? ⟨S, 0, none⟩ = some (.slice ah nh ch) := (CL.out wr hB.out).1.1
            by_cases hlt2 : k < nh
            · have n2 : (k : Int) < (nh : Int) := by omega
              obtain ⟨y, hy⟩ : ∃ y, ts[k]? = some y := ⟨_, List.getElem?_eq_getElem (by rw [SL7.out.n]; exact hlt2)⟩
              obtain ⟨ga, ea, p0, p1, p2, a1, c1, p3, p4, p5⟩ := (SL7.out.ha.under hB.out) k y hy
              subst ea
              have hym : y.h ∈ hypsA l1 := by rw [← SL7.out.h]; exact List.mem_map.2 ⟨y, List.mem_of_getElem? hy, rfl⟩
              obtain ⟨yf, hyf⟩ : ∃ yf, y.h.fl = yf := ⟨_, rfl⟩
              obtain ⟨yv, hyv⟩ : ∃ yv, y.h.var = yv := ⟨_, rfl⟩
              obtain ⟨nx, hnx⟩ : ∃ nx, y.h.ex.length = nx := ⟨_, rfl⟩
              obtain ⟨tv, htv⟩ : ∃ tv, (tyA l1 yv).getD 0 = tv := ⟨_, rfl⟩
              obtain ⟨th, hth⟩ : ∃ th, (tyA l1 yv).isSome = th := ⟨_, rfl⟩
              have HFL : Hid (yf = true → th = true ∧ nx = 2 ∧ isV yv = true ∧ isV tv = false ∧ y.h.ex = [tv, yv]) := fun e => by
                have e' := hyf.trans e
                obtain ⟨t, h1, h2, h3⟩ := G1.out.fl y.h hym e'
                have h4 := ty_good G1.out hym e'
                rw [hyv] at h1 h2 h4
                rw [h1] at h4 hnx
                rw [h4] at htv hth
                have e5 : tv = t := htv.symm
                subst e5
                exact ⟨hth.symm, by rw [← hnx]; rfl, h2, h3, h1⟩
              have HES : Hid (yf = false → yv = -1) := fun e => by rw [← hyv]; exact G1.out.es y.h hym (hyf.trans e)
              have HUN : Hid (∀ (j : Nat) (z : HyC), j < k → ts[j]? = some z → z.h.fl = true → yf = true → z.h.var ≠ yv) := fun j z hj hz hf1 hf2 => by
                have hu := G1.out.un
                rw [← SL7.out.h] at hu
                obtain ⟨l1', e1⟩ := List.getElem?_eq_some_iff.1 hz
                obtain ⟨l2', e2⟩ := List.getElem?_eq_some_iff.1 hy
                have h5 := List.pairwise_iff_getElem.1 hu j k (by rw [List.length_map]; exact l1') (by rw [List.length_map]; exact l2') hj
                rw [List.getElem_map, List.getElem_map, e1, e2] at h5
                rw [← hyv]
                exact h5 hf1 (hyf.trans hf2)
              have P4 : Hid (NsAt wr a1 y.h.ex) := p4
              have HWY : Hid (wfN yv) := by show wfN yv; rw [← hyv]; exact (G1.out.wf y.h hym).1
              rw [hyf] at p1
              rw [hyv] at p2
              rw [hnx] at p3
              clear hym hyf hyv hnx p4 p5 hy
              obtain ⟨wa, hwa⟩ : ∃ wa, wa = wr.alloc (.cells #[.string y.h.lab, .bool yf, .int .i64 yv, .slice a1 nx c1] 61) := ⟨_, rfl⟩
              obtain ⟨Tb, hTb⟩ : ∃ Tb, wr.heap.size = Tb := ⟨_, rfl⟩
              have HWA : Hid (wa = wr.alloc (.cells #[.string y.h.lab, .bool yf, .int .i64 yv, .slice a1 nx c1] 61)) := hwa
              have HTb : Hid (wr.heap.size = Tb) := hTb
              have ba : Below wr.heap.size wr wa := by rw [hwa]; exact fr_below_alloc _ _
              have ka : wa.heap[Tb]? = some (.cells #[.string y.h.lab, .bool yf, .int .i64 yv, .slice a1 nx c1] 61 (0, 0)) := by rw [hwa, ← hTb]; exact heap_alloc_new wr _
              have HBA : Hid (Below w7.heap.size w7 wa) := hB.out.trans (ba.mono hB.out.size)
              have t2 : wa.cell? ⟨Tb, 2, none⟩ = some (.int .i64 yv) := M.cell_whole ka 2
              have KA : Hid (wa.heap[Tb]? = some (.cells #[.string y.h.lab, .bool yf, .int .i64 yv, .slice a1 nx c1] 61 (0, 0)) ∧ NsAt wa a1 y.h.ex) := ⟨ka, P4.out.under ba⟩
              have TY : Hid _ := type_st (R7.out.st.below HBA.out) G1.out yv HWY.out
              rw [htv, hth] at TY
              clear hwa hTb ba ka htv hth P4 HWY
              go_upto_region 20 with fail
              rw [← HWA.out, HTb.out]
              clear HWA HTb p0 p1 p2 p3 z0
              go_wp2_with fail
              refine Calls.mono TY.out ?_
              rintro e wb ⟨rfl, hbb⟩
              have HBB : Hid (Below w7.heap.size w7 wb) := HBA.out.trans (hbb.mono HBA.out.size)
              have KB : Hid (wb.heap[Tb]? = some (.cells #[.string y.h.lab, .bool yf, .int .i64 yv, .slice a1 nx c1] 61 (0, 0)) ∧ NsAt wb a1 y.h.ex) := ⟨(hbb.block Tb (Array.getElem?_eq_some_iff.1 KA.out.1).1).trans KA.out.1, KA.out.2.under hbb⟩
              have KC : Hid (∀ W, Below wb.heap.size wb W → W.cell? ⟨Tb, 1, none⟩ = some (.bool yf) ∧ W.cell? ⟨Tb, 2, none⟩ = some (.int .i64 yv) ∧ W.cell? ⟨Tb, 3, none⟩ = some (.slice a1 nx c1)) := fun W hW => by
                have h1 := (hW.block Tb (Array.getElem?_eq_some_iff.1 KB.out.1).1).trans KB.out.1
                exact ⟨M.cell_whole h1 1, M.cell_whole h1 2, M.cell_whole h1 3⟩
              clear hbb TY KA HBA t2
              go_upto_region 21 with fail
              go_cut [154] (fun v154 wx => v154 = .bool false ∧ Hid (Below wb.heap.size wb wx))
              case first => as_aux_lemma =>
                have H0 : Hid (Below wb.heap.size wb wb.drew) := fr_below_drewN (Below.refl _ _) 1
                cases yf with
                | true =>
                  obtain ⟨e1, e2, v1, v2, e3⟩ := HFL.out rfl
                  subst e1
                  subst e2
                  have hns := KB.out.2
                  rw [e3] at hns
                  obtain ⟨gx, ox, ex, c0⟩ := hns 0 tv rfl
                  obtain ⟨gx', ox', ex', c1'⟩ := hns 1 yv rfl
                  subst ex
                  cases ex'
                  rw [Nat.add_zero] at c0
                  have SF : Hid (∀ W, Below wb.heap.size wb W → W.cell? ⟨Tb, 1, none⟩ = some (.bool true) ∧ W.cell? ⟨Tb, 2, none⟩ = some (.int .i64 yv) ∧ W.cell? ⟨Tb, 3, none⟩ = some (.slice (some ⟨gx, ox, none⟩) 2 c1) ∧ W.cell? ⟨gx, ox, none⟩ = some (.int .i64 tv) ∧ W.cell? ⟨gx, ox + 1, none⟩ = some (.int .i64 yv)) := fun W hW => ⟨(KC.out W hW).1, (KC.out W hW).2.1, (KC.out W hW).2.2, cell_under hW c0, cell_under hW c1'⟩
                  have V1 : Hid (∀ W, Calls Tryz.prog 10 #[.int .i64 yv] W fun e w' => e = .returned (.bool true) ∧ w' = W) := fun W => by have h := VA.out yv W; rw [v1] at h; exact h
                  have V2 : Hid (∀ W, Calls Tryz.prog 10 #[.int .i64 tv] W fun e w' => e = .returned (.bool false) ∧ w' = W) := fun W => by have h := VA.out tv W; rw [v2] at h; exact h
                  clear hns c0 c1' v1 v2 e3
                  refine wp_region_held_drew (S := fun w' => w'.cell? ⟨Tb, 1, none⟩ = some (.bool true) ∧ w'.cell? ⟨Tb, 2, none⟩ = some (.int .i64 yv) ∧ w'.cell? ⟨Tb, 3, none⟩ = some (.slice (some ⟨gx, ox, none⟩) 2 c1) ∧ w'.cell? ⟨gx, ox, none⟩ = some (.int .i64 tv) ∧ w'.cell? ⟨gx, ox + 1, none⟩ = some (.int .i64 yv)) (by kernel_rfl) ?_ (fun hHeld => ?_)
                  · exact SF.out _ H0.out
                  refine wpAnyH_take (i := 0) (oi := { dst := some 106, op := Op.fieldAddr 61 (Operand.tmp 9) 1, type := 0, pos := "outright.go:108", after := #[], guard := none }) (v := ?_) rfl (by kernel_rfl) (by kernel_rfl) (by kernel_rfl) (fun _ _ _ h => h) (Or.inl ⟨by rfl, ?_⟩) hHeld ?_
                  rotate_left
                  · (intro w hSw; (try dsimp only at hSw); go_simp; try with_reducible rfl)
                  try simp only [Act.put, List.setIfInBounds_toArray, List.set_cons_zero, List.set_cons_succ]
                  refine wpAnyH_take (i := 1) (oi := { dst := some 107, op := Op.load 4 (Operand.tmp 106), type := 4, pos := "outright.go:108", after := #[{ on := 0, ground := Ground.data }], guard := none }) (v := ?_) rfl (by kernel_rfl) (by kernel_rfl) (by kernel_rfl) (fun _ _ _ h => h) (Or.inl ⟨by rfl, ?_⟩) hHeld ?_
                  rotate_left
                  · (intro w hSw; (try dsimp only at hSw); go_simp; try with_reducible rfl)
                  try simp only [Act.put, List.setIfInBounds_toArray, List.set_cons_zero, List.set_cons_succ]
                  refine wpAnyH_take (i := 2) (oi := { dst := some 108, op := Op.move (Operand.tmp 107), type := 4, pos := "outright.go:108", after := #[{ on := 1, ground := Ground.data }], guard := none }) (v := ?_) rfl (by kernel_rfl) (by kernel_rfl) (by kernel_rfl) (fun _ _ _ h => h) (Or.inl ⟨by rfl, ?_⟩) hHeld ?_
                  rotate_left
                  · (intro w hSw; (try dsimp only at hSw); go_simp; try with_reducible rfl)
                  try simp only [Act.put, List.setIfInBounds_toArray, List.set_cons_zero, List.set_cons_succ]
                  refine wpAnyH_take (i := 3) (oi := { dst := some 109, op := Op.move (Operand.tmp 11), type := 4, pos := "outright.go:108", after := #[{ on := 2, ground := Ground.guard }], guard := some (2, true) }) (v := ?_) rfl (by kernel_rfl) (by kernel_rfl) (by kernel_rfl) (fun _ _ _ h => h) (Or.inl ⟨by rfl, ?_⟩) hHeld ?_
                  rotate_left
                  · (intro w hSw; (try dsimp only at hSw); go_simp; try with_reducible rfl)
                  try simp only [Act.put, List.setIfInBounds_toArray, List.set_cons_zero, List.set_cons_succ]
                  refine wpAnyH_take (i := 4) (oi := { dst := some 110, op := Op.unOp UnOp.not 4 (Operand.tmp 109), type := 4, pos := "outright.go:108", after := #[{ on := 3, ground := Ground.data }, { on := 2, ground := Ground.guard }], guard := some (2, true) }) (v := ?_) rfl (by kernel_rfl) (by kernel_rfl) (by kernel_rfl) (fun _ _ _ h => h) (Or.inl ⟨by rfl, ?_⟩) hHeld ?_
                  rotate_left
                  · (intro w hSw; (try dsimp only at hSw); go_simp; try with_reducible rfl)
                  try simp only [Act.put, List.setIfInBounds_toArray, List.set_cons_zero, List.set_cons_succ]
                  refine wpAnyH_take (i := 5) (oi := { dst := some 111, op := Op.move (Operand.tmp 110), type := 4, pos := "outright.go:108", after := #[{ on := 4, ground := Ground.data }, { on := 2, ground := Ground.chain }, { on := 2, ground := Ground.guard }], guard := some (2, true) }) (v := ?_) rfl (by kernel_rfl) (by kernel_rfl) (by kernel_rfl) (fun _ _ _ h => h) (Or.inl ⟨by rfl, ?_⟩) hHeld ?_
                  rotate_left
                  · (intro w hSw; (try dsimp only at hSw); go_simp; try with_reducible rfl)
                  try simp only [Act.put, List.setIfInBounds_toArray, List.set_cons_zero, List.set_cons_succ]
                  refine wpAnyH_take (i := 6) (oi := { dst := some 112, op := Op.fieldAddr 61 (Operand.tmp 9) 3, type := 0, pos := "outright.go:108", after := #[{ on := 5, ground := Ground.guard }], guard := some (5, false) }) (v := ?_) rfl (by kernel_rfl) (by kernel_rfl) (by kernel_rfl) (fun _ _ _ h => h) (Or.inl ⟨by rfl, ?_⟩) hHeld ?_
                  rotate_left
                  · (intro w hSw; (try dsimp only at hSw); go_simp; try with_reducible rfl)
                  try simp only [Act.put, List.setIfInBounds_toArray, List.set_cons_zero, List.set_cons_succ]
                  refine wpAnyH_take (i := 7) (oi := { dst := some 113, op := Op.load 32 (Operand.tmp 112), type := 32, pos := "outright.go:108", after := #[{ on := 6, ground := Ground.data }, { on := 5, ground := Ground.guard }], guard := some (5, false) }) (v := ?_) rfl (by kernel_rfl) (by kernel_rfl) (by kernel_rfl) (fun _ _ _ h => h) (Or.inl ⟨by rfl, ?_⟩) hHeld ?_
                  rotate_left
                  · (intro w hSw; (try dsimp only at hSw); go_simp; try with_reducible rfl)
                  try simp only [Act.put, List.setIfInBounds_toArray, List.set_cons_zero, List.set_cons_succ]
                  refine wpAnyH_take (i := 8) (oi := { dst := some 114, op := Op.call { callee := Callee.builtin Builtin.len, args := #[Operand.tmp 113], argTypes := #[32] }, type := 3, pos := "outright.go:108", after := #[{ on := 7, ground := Ground.data }, { on := 5, ground := Ground.guard }], guard := some (5, false) }) (v := ?_) rfl (by kernel_rfl) (by kernel_rfl) (by kernel_rfl) (fun _ _ _ h => h) (Or.inl ⟨by rfl, ?_⟩) hHeld ?_
                  rotate_left
                  · (intro w hSw; (try dsimp only at hSw); go_simp; try with_reducible rfl)
                  try simp only [Act.put, List.setIfInBounds_toArray, List.set_cons_zero, List.set_cons_succ]
                  refine wpAnyH_take (i := 9) (oi := { dst := some 115, op := Op.binOp BinOp.neq 3 (Operand.tmp 114) (Operand.const (Value.int IntKind.i64 2)) 3, type := 4, pos := "outright.go:108", after := #[{ on := 8, ground := Ground.data }, { on := 5, ground := Ground.guard }], guard := some (5, false) }) (v := ?_) rfl (by kernel_rfl) (by kernel_rfl) (by kernel_rfl) (fun _ _ _ h => h) (Or.inl ⟨by rfl, ?_⟩) hHeld ?_
                  rotate_left
                  · (intro w hSw; (try dsimp only at hSw); go_simp; try with_reducible rfl)
                  try simp only [Act.put, List.setIfInBounds_toArray, List.set_cons_zero, List.set_cons_succ]
                  refine wpAnyH_take (i := 10) (oi := { dst := some 116, op := Op.pick (Operand.tmp 111) (Operand.const (Value.bool true)) (Operand.tmp 115), type := 4, pos := "outright.go:108", after := #[{ on := 5, ground := Ground.data }, { on := 9, ground := Ground.data }, { on := 2, ground := Ground.guard }], guard := some (2, true) }) (v := ?_) rfl (by kernel_rfl) (by kernel_rfl) (by kernel_rfl) (fun _ _ _ h => h) (Or.inl ⟨by rfl, ?_⟩) hHeld ?_
                  rotate_left
                  · (intro w hSw; (try dsimp only at hSw); go_simp; try with_reducible rfl)
                  try simp only [Act.put, List.setIfInBounds_toArray, List.set_cons_zero, List.set_cons_succ]
                  refine wpAnyH_take (i := 11) (oi := { dst := some 117, op := Op.move (Operand.tmp 116), type := 4, pos := "outright.go:108", after := #[{ on := 10, ground := Ground.data }, { on := 5, ground := Ground.chain }, { on := 2, ground := Ground.guard }], guard := some (2, true) }) (v := ?_) rfl (by kernel_rfl) (by kernel_rfl) (by kernel_rfl) (fun _ _ _ h => h) (Or.inl ⟨by rfl, ?_⟩) hHeld ?_
                  rotate_left
                  · (intro w hSw; (try dsimp only at hSw); go_simp; try with_reducible rfl)
                  try simp only [Act.put, List.setIfInBounds_toArray, List.set_cons_zero, List.set_cons_succ]
                  refine wpAnyH_take (i := 12) (oi := { dst := some 118, op := Op.fieldAddr 61 (Operand.tmp 9) 3, type := 0, pos := "outright.go:108", after := #[{ on := 11, ground := Ground.guard }], guard := some (11, false) }) (v := ?_) rfl (by kernel_rfl) (by kernel_rfl) (by kernel_rfl) (fun _ _ _ h => h) (Or.inl ⟨by rfl, ?_⟩) hHeld ?_
                  rotate_left
                  · (intro w hSw; (try dsimp only at hSw); go_simp; try with_reducible rfl)
                  try simp only [Act.put, List.setIfInBounds_toArray, List.set_cons_zero, List.set_cons_succ]
                  refine wpAnyH_take (i := 13) (oi := { dst := some 119, op := Op.load 32 (Operand.tmp 118), type := 32, pos := "outright.go:108", after := #[{ on := 12, ground := Ground.data }, { on := 11, ground := Ground.guard }], guard := some (11, false) }) (v := ?_) rfl (by kernel_rfl) (by kernel_rfl) (by kernel_rfl) (fun _ _ _ h => h) (Or.inl ⟨by rfl, ?_⟩) hHeld ?_
                  rotate_left
                  · (intro w hSw; (try dsimp only at hSw); go_simp; try with_reducible rfl)
                  try simp only [Act.put, List.setIfInBounds_toArray, List.set_cons_zero, List.set_cons_succ]
                  refine wpAnyH_take (i := 14) (oi := { dst := some 120, op := Op.indexAddr 32 (Operand.tmp 119) (Operand.const (Value.int IntKind.i64 0)), type := 0, pos := "outright.go:108", after := #[{ on := 13, ground := Ground.data }, { on := 11, ground := Ground.guard }], guard := some (11, false) }) (v := ?_) rfl (by kernel_rfl) (by kernel_rfl) (by kernel_rfl) (fun _ _ _ h => h) (Or.inl ⟨by rfl, ?_⟩) hHeld ?_
                  rotate_left
                  · (intro w hSw; (try dsimp only at hSw); go_simp; try with_reducible rfl)
                  try simp only [Act.put, List.setIfInBounds_toArray, List.set_cons_zero, List.set_cons_succ]
                  refine wpAnyH_take (i := 15) (oi := { dst := some 121, op := Op.load 3 (Operand.tmp 120), type := 3, pos := "outright.go:108", after := #[{ on := 14, ground := Ground.data }, { on := 11, ground := Ground.guard }], guard := some (11, false) }) (v := ?_) rfl (by kernel_rfl) (by kernel_rfl) (by kernel_rfl) (fun _ _ _ h => h) (Or.inl ⟨by rfl, ?_⟩) hHeld ?_
                  rotate_left
                  · (intro w hSw; (try dsimp only at hSw); go_simp; try with_reducible rfl)
                  try simp only [Act.put, List.setIfInBounds_toArray, List.set_cons_zero, List.set_cons_succ]
                  refine wpAnyH_take (i := 16) (oi := { dst := some 122, op := Op.move (Operand.tmp 10), type := 3, pos := "outright.go:108", after := #[{ on := 11, ground := Ground.guard }], guard := some (11, false) }) (v := ?_) rfl (by kernel_rfl) (by kernel_rfl) (by kernel_rfl) (fun _ _ _ h => h) (Or.inl ⟨by rfl, ?_⟩) hHeld ?_
                  rotate_left
                  · (intro w hSw; (try dsimp only at hSw); go_simp; try with_reducible rfl)
                  try simp only [Act.put, List.setIfInBounds_toArray, List.set_cons_zero, List.set_cons_succ]
                  refine wpAnyH_take (i := 17) (oi := { dst := some 123, op := Op.binOp BinOp.neq 3 (Operand.tmp 121) (Operand.tmp 122) 3, type := 4, pos := "outright.go:108", after := #[{ on := 15, ground := Ground.data }, { on := 16, ground := Ground.data }, { on := 11, ground := Ground.guard }], guard := some (11, false) }) (v := ?_) rfl (by kernel_rfl) (by kernel_rfl) (by kernel_rfl) (fun _ _ _ h => h) (Or.inl ⟨by rfl, ?_⟩) hHeld ?_
                  rotate_left
                  · (intro w hSw; (try dsimp only at hSw); go_simp; try with_reducible rfl)
                  try simp only [Act.put, List.setIfInBounds_toArray, List.set_cons_zero, List.set_cons_succ]
                  refine wpAnyH_take (i := 18) (oi := { dst := some 124, op := Op.pick (Operand.tmp 117) (Operand.const (Value.bool true)) (Operand.tmp 123), type := 4, pos := "outright.go:108", after := #[{ on := 11, ground := Ground.data }, { on := 17, ground := Ground.data }, { on := 2, ground := Ground.guard }], guard := some (2, true) }) (v := ?_) rfl (by kernel_rfl) (by kernel_rfl) (by kernel_rfl) (fun _ _ _ h => h) (Or.inl ⟨by rfl, ?_⟩) hHeld ?_
                  rotate_left
                  · (intro w hSw; (try dsimp only at hSw); go_simp; try with_reducible rfl)
                  try simp only [Act.put, List.setIfInBounds_toArray, List.set_cons_zero, List.set_cons_succ]
                  refine wpAnyH_take (i := 19) (oi := { dst := some 125, op := Op.move (Operand.tmp 124), type := 4, pos := "outright.go:108", after := #[{ on := 18, ground := Ground.data }, { on := 11, ground := Ground.chain }, { on := 2, ground := Ground.guard }], guard := some (2, true) }) (v := ?_) rfl (by kernel_rfl) (by kernel_rfl) (by kernel_rfl) (fun _ _ _ h => h) (Or.inl ⟨by rfl, ?_⟩) hHeld ?_
                  rotate_left
                  · (intro w hSw; (try dsimp only at hSw); go_simp; try with_reducible rfl)
                  try simp only [Act.put, List.setIfInBounds_toArray, List.set_cons_zero, List.set_cons_succ]
                  refine wpAnyH_take (i := 20) (oi := { dst := some 126, op := Op.fieldAddr 61 (Operand.tmp 9) 3, type := 0, pos := "outright.go:108", after := #[{ on := 19, ground := Ground.guard }], guard := some (19, false) }) (v := ?_) rfl (by kernel_rfl) (by kernel_rfl) (by kernel_rfl) (fun _ _ _ h => h) (Or.inl ⟨by rfl, ?_⟩) hHeld ?_
                  rotate_left
                  · (intro w hSw; (try dsimp only at hSw); go_simp; try with_reducible rfl)
                  try simp only [Act.put, List.setIfInBounds_toArray, List.set_cons_zero, List.set_cons_succ]
                  refine wpAnyH_take (i := 21) (oi := { dst := some 127, op := Op.load 32 (Operand.tmp 126), type := 32, pos := "outright.go:108", after := #[{ on := 20, ground := Ground.data }, { on := 19, ground := Ground.guard }], guard := some (19, false) }) (v := ?_) rfl (by kernel_rfl) (by kernel_rfl) (by kernel_rfl) (fun _ _ _ h => h) (Or.inl ⟨by rfl, ?_⟩) hHeld ?_
                  rotate_left
                  · (intro w hSw; (try dsimp only at hSw); go_simp; try with_reducible rfl)
                  try simp only [Act.put, List.setIfInBounds_toArray, List.set_cons_zero, List.set_cons_succ]
                  refine wpAnyH_take (i := 22) (oi := { dst := some 128, op := Op.indexAddr 32 (Operand.tmp 127) (Operand.const (Value.int IntKind.i64 1)), type := 0, pos := "outright.go:108", after := #[{ on := 21, ground := Ground.data }, { on := 19, ground := Ground.guard }], guard := some (19, false) }) (v := ?_) rfl (by kernel_rfl) (by kernel_rfl) (by kernel_rfl) (fun _ _ _ h => h) (Or.inl ⟨by rfl, ?_⟩) hHeld ?_
                  rotate_left
                  · (intro w hSw; (try dsimp only at hSw); go_simp; try with_reducible rfl)
                  try simp only [Act.put, List.setIfInBounds_toArray, List.set_cons_zero, List.set_cons_succ]
                  refine wpAnyH_take (i := 23) (oi := { dst := some 129, op := Op.load 3 (Operand.tmp 128), type := 3, pos := "outright.go:108", after := #[{ on := 22, ground := Ground.data }, { on := 19, ground := Ground.guard }], guard := some (19, false) }) (v := ?_) rfl (by kernel_rfl) (by kernel_rfl) (by kernel_rfl) (fun _ _ _ h => h) (Or.inl ⟨by rfl, ?_⟩) hHeld ?_
                  rotate_left
                  · (intro w hSw; (try dsimp only at hSw); go_simp; try with_reducible rfl)
                  try simp only [Act.put, List.setIfInBounds_toArray, List.set_cons_zero, List.set_cons_succ]
                  refine wpAnyH_take (i := 24) (oi := { dst := some 130, op := Op.fieldAddr 61 (Operand.tmp 9) 2, type := 0, pos := "outright.go:108", after := #[{ on := 19, ground := Ground.guard }], guard := some (19, false) }) (v := ?_) rfl (by kernel_rfl) (by kernel_rfl) (by kernel_rfl) (fun _ _ _ h => h) (Or.inl ⟨by rfl, ?_⟩) hHeld ?_
                  rotate_left
                  · (intro w hSw; (try dsimp only at hSw); go_simp; try with_reducible rfl)
                  try simp only [Act.put, List.setIfInBounds_toArray, List.set_cons_zero, List.set_cons_succ]
                  refine wpAnyH_take (i := 25) (oi := { dst := some 131, op := Op.load 3 (Operand.tmp 130), type := 3, pos := "outright.go:108", after := #[{ on := 24, ground := Ground.data }, { on := 19, ground := Ground.guard }], guard := some (19, false) }) (v := ?_) rfl (by kernel_rfl) (by kernel_rfl) (by kernel_rfl) (fun _ _ _ h => h) (Or.inl ⟨by rfl, ?_⟩) hHeld ?_
                  rotate_left
                  · (intro w hSw; (try dsimp only at hSw); go_simp; try with_reducible rfl)
                  try simp only [Act.put, List.setIfInBounds_toArray, List.set_cons_zero, List.set_cons_succ]
                  refine wpAnyH_take (i := 26) (oi := { dst := some 132, op := Op.binOp BinOp.neq 3 (Operand.tmp 129) (Operand.tmp 131) 3, type := 4, pos := "outright.go:108", after := #[{ on := 23, ground := Ground.data }, { on := 25, ground := Ground.data }, { on := 19, ground := Ground.guard }], guard := some (19, false) }) (v := ?_) rfl (by kernel_rfl) (by kernel_rfl) (by kernel_rfl) (fun _ _ _ h => h) (Or.inl ⟨by rfl, ?_⟩) hHeld ?_
                  rotate_left
                  · (intro w hSw; (try dsimp only at hSw); go_simp; try with_reducible rfl)
                  try simp only [Act.put, List.setIfInBounds_toArray, List.set_cons_zero, List.set_cons_succ]
                  refine wpAnyH_take (i := 27) (oi := { dst := some 133, op := Op.pick (Operand.tmp 125) (Operand.const (Value.bool true)) (Operand.tmp 132), type := 4, pos := "outright.go:108", after := #[{ on := 19, ground := Ground.data }, { on := 26, ground := Ground.data }, { on := 2, ground := Ground.guard }], guard := some (2, true) }) (v := ?_) rfl (by kernel_rfl) (by kernel_rfl) (by kernel_rfl) (fun _ _ _ h => h) (Or.inl ⟨by rfl, ?_⟩) hHeld ?_
                  rotate_left
                  · (intro w hSw; (try dsimp only at hSw); go_simp; try with_reducible rfl)
                  try simp only [Act.put, List.setIfInBounds_toArray, List.set_cons_zero, List.set_cons_succ]
                  refine wpAnyH_take (i := 28) (oi := { dst := some 134, op := Op.move (Operand.tmp 133), type := 4, pos := "outright.go:108", after := #[{ on := 27, ground := Ground.data }, { on := 19, ground := Ground.chain }, { on := 2, ground := Ground.guard }], guard := some (2, true) }) (v := ?_) rfl (by kernel_rfl) (by kernel_rfl) (by kernel_rfl) (fun _ _ _ h => h) (Or.inl ⟨by rfl, ?_⟩) hHeld ?_
                  rotate_left
                  · (intro w hSw; (try dsimp only at hSw); go_simp; try with_reducible rfl)
                  try simp only [Act.put, List.setIfInBounds_toArray, List.set_cons_zero, List.set_cons_succ]
                  refine wpAnyH_take (i := 29) (oi := { dst := some 135, op := Op.fieldAddr 61 (Operand.tmp 9) 2, type := 0, pos := "outright.go:108", after := #[{ on := 28, ground := Ground.guard }], guard := some (28, false) }) (v := ?_) rfl (by kernel_rfl) (by kernel_rfl) (by kernel_rfl) (fun _ _ _ h => h) (Or.inl ⟨by rfl, ?_⟩) hHeld ?_
                  rotate_left
                  · (intro w hSw; (try dsimp only at hSw); go_simp; try with_reducible rfl)
                  try simp only [Act.put, List.setIfInBounds_toArray, List.set_cons_zero, List.set_cons_succ]
                  refine wpAnyH_take (i := 30) (oi := { dst := some 136, op := Op.load 3 (Operand.tmp 135), type := 3, pos := "outright.go:108", after := #[{ on := 29, ground := Ground.data }, { on := 28, ground := Ground.guard }], guard := some (28, false) }) (v := ?_) rfl (by kernel_rfl) (by kernel_rfl) (by kernel_rfl) (fun _ _ _ h => h) (Or.inl ⟨by rfl, ?_⟩) hHeld ?_
                  rotate_left
                  · (intro w hSw; (try dsimp only at hSw); go_simp; try with_reducible rfl)
                  try simp only [Act.put, List.setIfInBounds_toArray, List.set_cons_zero, List.set_cons_succ]
                  refine wpAnyH_ready (rs := [31]) (by kernel_rfl) (by simp) ?_
                  refine AllReadyH.cons (o := { dst := some 137, op := Op.call { callee := Callee.value (Operand.func 10), args := #[Operand.tmp 136], argTypes := #[3] }, type := 4, pos := "outright.go:108", after := #[{ on := 30, ground := Ground.data }, { on := 28, ground := Ground.chain }, { on := 28, ground := Ground.guard }], guard := some (28, false) }) rfl (fun K hK => ?_) AllReadyH.nil
                  go_simp
                  go_at_call 10
                  refine Calls.mono (V1.out _) ?_
                  rintro e wz ⟨rfl, hwz⟩
                  subst wz
                  try go_wp2_with fail
                  refine hK.out _ _ ?_ (fun hHeld_31 => ?_)
                  · exact SF.out _ H0.out
                  clear hK K
                  try simp only [Act.put, List.setIfInBounds_toArray, List.set_cons_zero, List.set_cons_succ]
                  refine wpAnyH_take (i := 32) (oi := { dst := some 138, op := Op.unOp UnOp.not 4 (Operand.tmp 137), type := 4, pos := "outright.go:108", after := #[{ on := 31, ground := Ground.data }, { on := 28, ground := Ground.guard }], guard := some (28, false) }) (v := ?_) rfl (by kernel_rfl) (by kernel_rfl) (by kernel_rfl) (fun _ _ _ h => h) (Or.inl ⟨by rfl, ?_⟩) hHeld_31 ?_
                  rotate_left
                  · (intro w hSw; (try dsimp only at hSw); go_simp; try with_reducible rfl)
                  try simp only [Act.put, List.setIfInBounds_toArray, List.set_cons_zero, List.set_cons_succ]
                  refine wpAnyH_take (i := 33) (oi := { dst := some 139, op := Op.pick (Operand.tmp 134) (Operand.const (Value.bool true)) (Operand.tmp 138), type := 4, pos := "outright.go:108", after := #[{ on := 28, ground := Ground.data }, { on := 32, ground := Ground.data }, { on := 2, ground := Ground.guard }], guard := some (2, true) }) (v := ?_) rfl (by kernel_rfl) (by kernel_rfl) (by kernel_rfl) (fun _ _ _ h => h) (Or.inl ⟨by rfl, ?_⟩) hHeld_31 ?_
                  rotate_left
                  · (intro w hSw; (try dsimp only at hSw); go_simp; try with_reducible rfl)
                  try simp only [Act.put, List.setIfInBounds_toArray, List.set_cons_zero, List.set_cons_succ]
                  refine wpAnyH_take (i := 34) (oi := { dst := some 140, op := Op.move (Operand.tmp 139), type := 4, pos := "outright.go:108", after := #[{ on := 33, ground := Ground.data }, { on := 31, ground := Ground.chain }, { on := 2, ground := Ground.guard }], guard := some (2, true) }) (v := ?_) rfl (by kernel_rfl) (by kernel_rfl) (by kernel_rfl) (fun _ _ _ h => h) (Or.inl ⟨by rfl, ?_⟩) hHeld_31 ?_
                  rotate_left
                  · (intro w hSw; (try dsimp only at hSw); go_simp; try with_reducible rfl)
                  try simp only [Act.put, List.setIfInBounds_toArray, List.set_cons_zero, List.set_cons_succ]
                  refine wpAnyH_take (i := 35) (oi := { dst := some 141, op := Op.move (Operand.tmp 10), type := 3, pos := "outright.go:108", after := #[{ on := 34, ground := Ground.guard }], guard := some (34, false) }) (v := ?_) rfl (by kernel_rfl) (by kernel_rfl) (by kernel_rfl) (fun _ _ _ h => h) (Or.inl ⟨by rfl, ?_⟩) hHeld_31 ?_
                  rotate_left
                  · (intro w hSw; (try dsimp only at hSw); go_simp; try with_reducible rfl)
                  try simp only [Act.put, List.setIfInBounds_toArray, List.set_cons_zero, List.set_cons_succ]
                  refine wpAnyH_ready (rs := [36]) (by kernel_rfl) (by simp) ?_
                  refine AllReadyH.cons (o := { dst := some 142, op := Op.call { callee := Callee.value (Operand.func 10), args := #[Operand.tmp 141], argTypes := #[3] }, type := 4, pos := "outright.go:108", after := #[{ on := 35, ground := Ground.data }, { on := 34, ground := Ground.chain }, { on := 34, ground := Ground.guard }], guard := some (34, false) }) rfl (fun K hK => ?_) AllReadyH.nil
                  go_simp
                  go_at_call 10
                  refine Calls.mono (V2.out _) ?_
                  rintro e wz ⟨rfl, hwz⟩
                  subst wz
                  try go_wp2_with fail
                  refine hK.out _ _ ?_ (fun hHeld_36 => ?_)
                  · exact SF.out _ H0.out
                  clear hK K
                  try simp only [Act.put, List.setIfInBounds_toArray, List.set_cons_zero, List.set_cons_succ]
                  refine wpAnyH_take (i := 37) (oi := { dst := some 143, op := Op.pick (Operand.tmp 140) (Operand.const (Value.bool true)) (Operand.tmp 142), type := 4, pos := "outright.go:108", after := #[{ on := 34, ground := Ground.data }, { on := 36, ground := Ground.data }, { on := 2, ground := Ground.guard }], guard := some (2, true) }) (v := ?_) rfl (by kernel_rfl) (by kernel_rfl) (by kernel_rfl) (fun _ _ _ h => h) (Or.inl ⟨by rfl, ?_⟩) hHeld_36 ?_
                  rotate_left
                  · (intro w hSw; (try dsimp only at hSw); go_simp; try with_reducible rfl)
                  try simp only [Act.put, List.setIfInBounds_toArray, List.set_cons_zero, List.set_cons_succ]
                  refine wpAnyH_take (i := 38) (oi := { dst := some 144, op := Op.pick (Operand.tmp 108) (Operand.tmp 143) (Operand.const (Value.bool false)), type := 4, pos := "outright.go:108", after := #[{ on := 2, ground := Ground.data }, { on := 37, ground := Ground.data }], guard := none }) (v := ?_) rfl (by kernel_rfl) (by kernel_rfl) (by kernel_rfl) (fun _ _ _ h => h) (Or.inl ⟨by rfl, ?_⟩) hHeld_36 ?_
                  rotate_left
                  · (intro w hSw; (try dsimp only at hSw); go_simp; try with_reducible rfl)
                  try simp only [Act.put, List.setIfInBounds_toArray, List.set_cons_zero, List.set_cons_succ]
                  refine wpAnyH_take (i := 39) (oi := { dst := some 145, op := Op.move (Operand.tmp 144), type := 4, pos := "outright.go:108", after := #[{ on := 38, ground := Ground.data }, { on := 36, ground := Ground.chain }], guard := none }) (v := ?_) rfl (by kernel_rfl) (by kernel_rfl) (by kernel_rfl) (fun _ _ _ h => h) (Or.inl ⟨by rfl, ?_⟩) hHeld_36 ?_
                  rotate_left
                  · (intro w hSw; (try dsimp only at hSw); go_simp; try with_reducible rfl)
                  try simp only [Act.put, List.setIfInBounds_toArray, List.set_cons_zero, List.set_cons_succ]
                  refine wpAnyH_take (i := 40) (oi := { dst := some 146, op := Op.fieldAddr 61 (Operand.tmp 9) 1, type := 0, pos := "outright.go:108", after := #[{ on := 39, ground := Ground.guard }], guard := some (39, false) }) (v := ?_) rfl (by kernel_rfl) (by kernel_rfl) (by kernel_rfl) (fun _ _ _ h => h) (Or.inl ⟨by rfl, ?_⟩) hHeld_36 ?_
                  rotate_left
                  · (intro w hSw; (try dsimp only at hSw); go_simp; try with_reducible rfl)
                  try simp only [Act.put, List.setIfInBounds_toArray, List.set_cons_zero, List.set_cons_succ]
                  refine wpAnyH_take (i := 41) (oi := { dst := some 147, op := Op.load 4 (Operand.tmp 146), type := 4, pos := "outright.go:108", after := #[{ on := 40, ground := Ground.data }, { on := 39, ground := Ground.guard }], guard := some (39, false) }) (v := ?_) rfl (by kernel_rfl) (by kernel_rfl) (by kernel_rfl) (fun _ _ _ h => h) (Or.inl ⟨by rfl, ?_⟩) hHeld_36 ?_
                  rotate_left
                  · (intro w hSw; (try dsimp only at hSw); go_simp; try with_reducible rfl)
                  try simp only [Act.put, List.setIfInBounds_toArray, List.set_cons_zero, List.set_cons_succ]
                  refine wpAnyH_take (i := 42) (oi := { dst := some 148, op := Op.unOp UnOp.not 4 (Operand.tmp 147), type := 4, pos := "outright.go:108", after := #[{ on := 41, ground := Ground.data }, { on := 39, ground := Ground.guard }], guard := some (39, false) }) (v := ?_) rfl (by kernel_rfl) (by kernel_rfl) (by kernel_rfl) (fun _ _ _ h => h) (Or.inl ⟨by rfl, ?_⟩) hHeld_36 ?_
                  rotate_left
                  · (intro w hSw; (try dsimp only at hSw); go_simp; try with_reducible rfl)
                  try simp only [Act.put, List.setIfInBounds_toArray, List.set_cons_zero, List.set_cons_succ]
                  refine wpAnyH_take (i := 43) (oi := { dst := some 149, op := Op.move (Operand.tmp 148), type := 4, pos := "outright.go:108", after := #[{ on := 42, ground := Ground.data }, { on := 39, ground := Ground.chain }, { on := 39, ground := Ground.guard }], guard := some (39, false) }) (v := ?_) rfl (by kernel_rfl) (by kernel_rfl) (by kernel_rfl) (fun _ _ _ h => h) (Or.inl ⟨by rfl, ?_⟩) hHeld_36 ?_
                  rotate_left
                  · (intro w hSw; (try dsimp only at hSw); go_simp; try with_reducible rfl)
                  try simp only [Act.put, List.setIfInBounds_toArray, List.set_cons_zero, List.set_cons_succ]
                  refine wpAnyH_take (i := 44) (oi := { dst := some 150, op := Op.fieldAddr 61 (Operand.tmp 9) 2, type := 0, pos := "outright.go:108", after := #[{ on := 43, ground := Ground.guard }], guard := some (43, true) }) (v := undef) rfl (by kernel_rfl) (by kernel_rfl) (by kernel_rfl) (fun _ _ _ h => h) (Or.inr ⟨by rfl, rfl⟩) hHeld_36 ?_
                  try simp only [Act.put, List.setIfInBounds_toArray, List.set_cons_zero, List.set_cons_succ]
                  refine wpAnyH_take (i := 45) (oi := { dst := some 151, op := Op.load 3 (Operand.tmp 150), type := 3, pos := "outright.go:108", after := #[{ on := 44, ground := Ground.data }, { on := 43, ground := Ground.guard }], guard := some (43, true) }) (v := undef) rfl (by kernel_rfl) (by kernel_rfl) (by kernel_rfl) (fun _ _ _ h => h) (Or.inr ⟨by rfl, rfl⟩) hHeld_36 ?_
                  try simp only [Act.put, List.setIfInBounds_toArray, List.set_cons_zero, List.set_cons_succ]
                  refine wpAnyH_take (i := 46) (oi := { dst := some 152, op := Op.binOp BinOp.neq 3 (Operand.tmp 151) (Operand.const (Value.int IntKind.i64 (-1))) 3, type := 4, pos := "outright.go:108", after := #[{ on := 45, ground := Ground.data }, { on := 43, ground := Ground.guard }], guard := some (43, true) }) (v := undef) rfl (by kernel_rfl) (by kernel_rfl) (by kernel_rfl) (fun _ _ _ h => h) (Or.inr ⟨by rfl, rfl⟩) hHeld_36 ?_
                  try simp only [Act.put, List.setIfInBounds_toArray, List.set_cons_zero, List.set_cons_succ]
                  refine wpAnyH_take (i := 47) (oi := { dst := some 153, op := Op.pick (Operand.tmp 149) (Operand.tmp 152) (Operand.const (Value.bool false)), type := 4, pos := "outright.go:108", after := #[{ on := 43, ground := Ground.data }, { on := 46, ground := Ground.data }, { on := 39, ground := Ground.guard }], guard := some (39, false) }) (v := ?_) rfl (by kernel_rfl) (by kernel_rfl) (by kernel_rfl) (fun _ _ _ h => h) (Or.inl ⟨by rfl, ?_⟩) hHeld_36 ?_
                  rotate_left
                  · (intro w hSw; (try dsimp only at hSw); go_simp; try with_reducible rfl)
                  try simp only [Act.put, List.setIfInBounds_toArray, List.set_cons_zero, List.set_cons_succ]
                  refine wpAnyH_take (i := 48) (oi := { dst := some 154, op := Op.pick (Operand.tmp 145) (Operand.const (Value.bool true)) (Operand.tmp 153), type := 4, pos := "outright.go:108", after := #[{ on := 39, ground := Ground.data }, { on := 47, ground := Ground.data }], guard := none }) (v := ?_) rfl (by kernel_rfl) (by kernel_rfl) (by kernel_rfl) (fun _ _ _ h => h) (Or.inl ⟨by rfl, ?_⟩) hHeld_36 ?_
                  rotate_left
                  · (intro w hSw; (try dsimp only at hSw); go_simp; try with_reducible rfl)
                  try simp only [Act.put, List.setIfInBounds_toArray, List.set_cons_zero, List.set_cons_succ]
                  refine wpAnyH_done (by kernel_rfl) ?_ _
                  go_wp2_with fail
                  go_meet
                  exact ⟨by first | rfl | simp, H0.out⟩
                | false =>
                  have e1 := HES.out rfl
                  subst e1
                  refine wp_region_held_drew (S := fun w' => w'.cell? ⟨Tb, 1, none⟩ = some (.bool false) ∧ w'.cell? ⟨Tb, 2, none⟩ = some (.int .i64 (-1))) (by kernel_rfl) ?_ (fun hHeld => ?_)
                  · exact ⟨(KC.out _ H0.out).1, (KC.out _ H0.out).2.1⟩
                  refine wpAnyH_take (i := 0) (oi := { dst := some 106, op := Op.fieldAddr 61 (Operand.tmp 9) 1, type := 0, pos := "outright.go:108", after := #[], guard := none }) (v := ?_) rfl (by kernel_rfl) (by kernel_rfl) (by kernel_rfl) (fun _ _ _ h => h) (Or.inl ⟨by rfl, ?_⟩) hHeld ?_
                  rotate_left
                  · (intro w hSw; (try dsimp only at hSw); go_simp; try with_reducible rfl)
                  try simp only [Act.put, List.setIfInBounds_toArray, List.set_cons_zero, List.set_cons_succ]
                  refine wpAnyH_take (i := 1) (oi := { dst := some 107, op := Op.load 4 (Operand.tmp 106), type := 4, pos := "outright.go:108", after := #[{ on := 0, ground := Ground.data }], guard := none }) (v := ?_) rfl (by kernel_rfl) (by kernel_rfl) (by kernel_rfl) (fun _ _ _ h => h) (Or.inl ⟨by rfl, ?_⟩) hHeld ?_
                  rotate_left
                  · (intro w hSw; (try dsimp only at hSw); go_simp; try with_reducible rfl)
                  try simp only [Act.put, List.setIfInBounds_toArray, List.set_cons_zero, List.set_cons_succ]
                  refine wpAnyH_take (i := 2) (oi := { dst := some 108, op := Op.move (Operand.tmp 107), type := 4, pos := "outright.go:108", after := #[{ on := 1, ground := Ground.data }], guard := none }) (v := ?_) rfl (by kernel_rfl) (by kernel_rfl) (by kernel_rfl) (fun _ _ _ h => h) (Or.inl ⟨by rfl, ?_⟩) hHeld ?_
                  rotate_left
                  · (intro w hSw; (try dsimp only at hSw); go_simp; try with_reducible rfl)
                  try simp only [Act.put, List.setIfInBounds_toArray, List.set_cons_zero, List.set_cons_succ]
                  refine wpAnyH_take (i := 3) (oi := { dst := some 109, op := Op.move (Operand.tmp 11), type := 4, pos := "outright.go:108", after := #[{ on := 2, ground := Ground.guard }], guard := some (2, true) }) (v := undef) rfl (by kernel_rfl) (by kernel_rfl) (by kernel_rfl) (fun _ _ _ h => h) (Or.inr ⟨by rfl, rfl⟩) hHeld ?_
                  try simp only [Act.put, List.setIfInBounds_toArray, List.set_cons_zero, List.set_cons_succ]
                  refine wpAnyH_take (i := 4) (oi := { dst := some 110, op := Op.unOp UnOp.not 4 (Operand.tmp 109), type := 4, pos := "outright.go:108", after := #[{ on := 3, ground := Ground.data }, { on := 2, ground := Ground.guard }], guard := some (2, true) }) (v := undef) rfl (by kernel_rfl) (by kernel_rfl) (by kernel_rfl) (fun _ _ _ h => h) (Or.inr ⟨by rfl, rfl⟩) hHeld ?_
                  try simp only [Act.put, List.setIfInBounds_toArray, List.set_cons_zero, List.set_cons_succ]
                  refine wpAnyH_take (i := 5) (oi := { dst := some 111, op := Op.move (Operand.tmp 110), type := 4, pos := "outright.go:108", after := #[{ on := 4, ground := Ground.data }, { on := 2, ground := Ground.chain }, { on := 2, ground := Ground.guard }], guard := some (2, true) }) (v := undef) rfl (by kernel_rfl) (by kernel_rfl) (by kernel_rfl) (fun _ _ _ h => h) (Or.inr ⟨by rfl, rfl⟩) hHeld ?_
                  try simp only [Act.put, List.setIfInBounds_toArray, List.set_cons_zero, List.set_cons_succ]
                  refine wpAnyH_take (i := 6) (oi := { dst := some 112, op := Op.fieldAddr 61 (Operand.tmp 9) 3, type := 0, pos := "outright.go:108", after := #[{ on := 5, ground := Ground.guard }], guard := some (5, false) }) (v := undef) rfl (by kernel_rfl) (by kernel_rfl) (by kernel_rfl) (fun _ _ _ h => h) (Or.inr ⟨by rfl, rfl⟩) hHeld ?_
                  try simp only [Act.put, List.setIfInBounds_toArray, List.set_cons_zero, List.set_cons_succ]
                  refine wpAnyH_take (i := 7) (oi := { dst := some 113, op := Op.load 32 (Operand.tmp 112), type := 32, pos := "outright.go:108", after := #[{ on := 6, ground := Ground.data }, { on := 5, ground := Ground.guard }], guard := some (5, false) }) (v := undef) rfl (by kernel_rfl) (by kernel_rfl) (by kernel_rfl) (fun _ _ _ h => h) (Or.inr ⟨by rfl, rfl⟩) hHeld ?_
                  try simp only [Act.put, List.setIfInBounds_toArray, List.set_cons_zero, List.set_cons_succ]
                  refine wpAnyH_take (i := 8) (oi := { dst := some 114, op := Op.call { callee := Callee.builtin Builtin.len, args := #[Operand.tmp 113], argTypes := #[32] }, type := 3, pos := "outright.go:108", after := #[{ on := 7, ground := Ground.data }, { on := 5, ground := Ground.guard }], guard := some (5, false) }) (v := undef) rfl (by kernel_rfl) (by kernel_rfl) (by kernel_rfl) (fun _ _ _ h => h) (Or.inr ⟨by rfl, rfl⟩) hHeld ?_
                  try simp only [Act.put, List.setIfInBounds_toArray, List.set_cons_zero, List.set_cons_succ]
                  refine wpAnyH_take (i := 9) (oi := { dst := some 115, op := Op.binOp BinOp.neq 3 (Operand.tmp 114) (Operand.const (Value.int IntKind.i64 2)) 3, type := 4, pos := "outright.go:108", after := #[{ on := 8, ground := Ground.data }, { on := 5, ground := Ground.guard }], guard := some (5, false) }) (v := undef) rfl (by kernel_rfl) (by kernel_rfl) (by kernel_rfl) (fun _ _ _ h => h) (Or.inr ⟨by rfl, rfl⟩) hHeld ?_
                  try simp only [Act.put, List.setIfInBounds_toArray, List.set_cons_zero, List.set_cons_succ]
                  refine wpAnyH_take (i := 10) (oi := { dst := some 116, op := Op.pick (Operand.tmp 111) (Operand.const (Value.bool true)) (Operand.tmp 115), type := 4, pos := "outright.go:108", after := #[{ on := 5, ground := Ground.data }, { on := 9, ground := Ground.data }, { on := 2, ground := Ground.guard }], guard := some (2, true) }) (v := undef) rfl (by kernel_rfl) (by kernel_rfl) (by kernel_rfl) (fun _ _ _ h => h) (Or.inr ⟨by rfl, rfl⟩) hHeld ?_
                  try simp only [Act.put, List.setIfInBounds_toArray, List.set_cons_zero, List.set_cons_succ]
                  refine wpAnyH_take (i := 11) (oi := { dst := some 117, op := Op.move (Operand.tmp 116), type := 4, pos := "outright.go:108", after := #[{ on := 10, ground := Ground.data }, { on := 5, ground := Ground.chain }, { on := 2, ground := Ground.guard }], guard := some (2, true) }) (v := undef) rfl (by kernel_rfl) (by kernel_rfl) (by kernel_rfl) (fun _ _ _ h => h) (Or.inr ⟨by rfl, rfl⟩) hHeld ?_
                  try simp only [Act.put, List.setIfInBounds_toArray, List.set_cons_zero, List.set_cons_succ]
                  refine wpAnyH_take (i := 12) (oi := { dst := some 118, op := Op.fieldAddr 61 (Operand.tmp 9) 3, type := 0, pos := "outright.go:108", after := #[{ on := 11, ground := Ground.guard }], guard := some (11, false) }) (v := undef) rfl (by kernel_rfl) (by kernel_rfl) (by kernel_rfl) (fun _ _ _ h => h) (Or.inr ⟨by rfl, rfl⟩) hHeld ?_
                  try simp only [Act.put, List.setIfInBounds_toArray, List.set_cons_zero, List.set_cons_succ]
                  refine wpAnyH_take (i := 13) (oi := { dst := some 119, op := Op.load 32 (Operand.tmp 118), type := 32, pos := "outright.go:108", after := #[{ on := 12, ground := Ground.data }, { on := 11, ground := Ground.guard }], guard := some (11, false) }) (v := undef) rfl (by kernel_rfl) (by kernel_rfl) (by kernel_rfl) (fun _ _ _ h => h) (Or.inr ⟨by rfl, rfl⟩) hHeld ?_
                  try simp only [Act.put, List.setIfInBounds_toArray, List.set_cons_zero, List.set_cons_succ]
                  refine wpAnyH_take (i := 14) (oi := { dst := some 120, op := Op.indexAddr 32 (Operand.tmp 119) (Operand.const (Value.int IntKind.i64 0)), type := 0, pos := "outright.go:108", after := #[{ on := 13, ground := Ground.data }, { on := 11, ground := Ground.guard }], guard := some (11, false) }) (v := undef) rfl (by kernel_rfl) (by kernel_rfl) (by kernel_rfl) (fun _ _ _ h => h) (Or.inr ⟨by rfl, rfl⟩) hHeld ?_
                  try simp only [Act.put, List.setIfInBounds_toArray, List.set_cons_zero, List.set_cons_succ]
                  refine wpAnyH_take (i := 15) (oi := { dst := some 121, op := Op.load 3 (Operand.tmp 120), type := 3, pos := "outright.go:108", after := #[{ on := 14, ground := Ground.data }, { on := 11, ground := Ground.guard }], guard := some (11, false) }) (v := undef) rfl (by kernel_rfl) (by kernel_rfl) (by kernel_rfl) (fun _ _ _ h => h) (Or.inr ⟨by rfl, rfl⟩) hHeld ?_
                  try simp only [Act.put, List.setIfInBounds_toArray, List.set_cons_zero, List.set_cons_succ]
                  refine wpAnyH_take (i := 16) (oi := { dst := some 122, op := Op.move (Operand.tmp 10), type := 3, pos := "outright.go:108", after := #[{ on := 11, ground := Ground.guard }], guard := some (11, false) }) (v := undef) rfl (by kernel_rfl) (by kernel_rfl) (by kernel_rfl) (fun _ _ _ h => h) (Or.inr ⟨by rfl, rfl⟩) hHeld ?_
                  try simp only [Act.put, List.setIfInBounds_toArray, List.set_cons_zero, List.set_cons_succ]
                  refine wpAnyH_take (i := 17) (oi := { dst := some 123, op := Op.binOp BinOp.neq 3 (Operand.tmp 121) (Operand.tmp 122) 3, type := 4, pos := "outright.go:108", after := #[{ on := 15, ground := Ground.data }, { on := 16, ground := Ground.data }, { on := 11, ground := Ground.guard }], guard := some (11, false) }) (v := undef) rfl (by kernel_rfl) (by kernel_rfl) (by kernel_rfl) (fun _ _ _ h => h) (Or.inr ⟨by rfl, rfl⟩) hHeld ?_
                  try simp only [Act.put, List.setIfInBounds_toArray, List.set_cons_zero, List.set_cons_succ]
                  refine wpAnyH_take (i := 18) (oi := { dst := some 124, op := Op.pick (Operand.tmp 117) (Operand.const (Value.bool true)) (Operand.tmp 123), type := 4, pos := "outright.go:108", after := #[{ on := 11, ground := Ground.data }, { on := 17, ground := Ground.data }, { on := 2, ground := Ground.guard }], guard := some (2, true) }) (v := undef) rfl (by kernel_rfl) (by kernel_rfl) (by kernel_rfl) (fun _ _ _ h => h) (Or.inr ⟨by rfl, rfl⟩) hHeld ?_
                  try simp only [Act.put, List.setIfInBounds_toArray, List.set_cons_zero, List.set_cons_succ]
                  refine wpAnyH_take (i := 19) (oi := { dst := some 125, op := Op.move (Operand.tmp 124), type := 4, pos := "outright.go:108", after := #[{ on := 18, ground := Ground.data }, { on := 11, ground := Ground.chain }, { on := 2, ground := Ground.guard }], guard := some (2, true) }) (v := undef) rfl (by kernel_rfl) (by kernel_rfl) (by kernel_rfl) (fun _ _ _ h => h) (Or.inr ⟨by rfl, rfl⟩) hHeld ?_
                  try simp only [Act.put, List.setIfInBounds_toArray, List.set_cons_zero, List.set_cons_succ]
                  refine wpAnyH_take (i := 20) (oi := { dst := some 126, op := Op.fieldAddr 61 (Operand.tmp 9) 3, type := 0, pos := "outright.go:108", after := #[{ on := 19, ground := Ground.guard }], guard := some (19, false) }) (v := undef) rfl (by kernel_rfl) (by kernel_rfl) (by kernel_rfl) (fun _ _ _ h => h) (Or.inr ⟨by rfl, rfl⟩) hHeld ?_
                  try simp only [Act.put, List.setIfInBounds_toArray, List.set_cons_zero, List.set_cons_succ]
                  refine wpAnyH_take (i := 21) (oi := { dst := some 127, op := Op.load 32 (Operand.tmp 126), type := 32, pos := "outright.go:108", after := #[{ on := 20, ground := Ground.data }, { on := 19, ground := Ground.guard }], guard := some (19, false) }) (v := undef) rfl (by kernel_rfl) (by kernel_rfl) (by kernel_rfl) (fun _ _ _ h => h) (Or.inr ⟨by rfl, rfl⟩) hHeld ?_
                  try simp only [Act.put, List.setIfInBounds_toArray, List.set_cons_zero, List.set_cons_succ]
                  refine wpAnyH_take (i := 22) (oi := { dst := some 128, op := Op.indexAddr 32 (Operand.tmp 127) (Operand.const (Value.int IntKind.i64 1)), type := 0, pos := "outright.go:108", after := #[{ on := 21, ground := Ground.data }, { on := 19, ground := Ground.guard }], guard := some (19, false) }) (v := undef) rfl (by kernel_rfl) (by kernel_rfl) (by kernel_rfl) (fun _ _ _ h => h) (Or.inr ⟨by rfl, rfl⟩) hHeld ?_
                  try simp only [Act.put, List.setIfInBounds_toArray, List.set_cons_zero, List.set_cons_succ]
                  refine wpAnyH_take (i := 23) (oi := { dst := some 129, op := Op.load 3 (Operand.tmp 128), type := 3, pos := "outright.go:108", after := #[{ on := 22, ground := Ground.data }, { on := 19, ground := Ground.guard }], guard := some (19, false) }) (v := undef) rfl (by kernel_rfl) (by kernel_rfl) (by kernel_rfl) (fun _ _ _ h => h) (Or.inr ⟨by rfl, rfl⟩) hHeld ?_
                  try simp only [Act.put, List.setIfInBounds_toArray, List.set_cons_zero, List.set_cons_succ]
                  refine wpAnyH_take (i := 24) (oi := { dst := some 130, op := Op.fieldAddr 61 (Operand.tmp 9) 2, type := 0, pos := "outright.go:108", after := #[{ on := 19, ground := Ground.guard }], guard := some (19, false) }) (v := undef) rfl (by kernel_rfl) (by kernel_rfl) (by kernel_rfl) (fun _ _ _ h => h) (Or.inr ⟨by rfl, rfl⟩) hHeld ?_
                  try simp only [Act.put, List.setIfInBounds_toArray, List.set_cons_zero, List.set_cons_succ]
                  refine wpAnyH_take (i := 25) (oi := { dst := some 131, op := Op.load 3 (Operand.tmp 130), type := 3, pos := "outright.go:108", after := #[{ on := 24, ground := Ground.data }, { on := 19, ground := Ground.guard }], guard := some (19, false) }) (v := undef) rfl (by kernel_rfl) (by kernel_rfl) (by kernel_rfl) (fun _ _ _ h => h) (Or.inr ⟨by rfl, rfl⟩) hHeld ?_
                  try simp only [Act.put, List.setIfInBounds_toArray, List.set_cons_zero, List.set_cons_succ]
                  refine wpAnyH_take (i := 26) (oi := { dst := some 132, op := Op.binOp BinOp.neq 3 (Operand.tmp 129) (Operand.tmp 131) 3, type := 4, pos := "outright.go:108", after := #[{ on := 23, ground := Ground.data }, { on := 25, ground := Ground.data }, { on := 19, ground := Ground.guard }], guard := some (19, false) }) (v := undef) rfl (by kernel_rfl) (by kernel_rfl) (by kernel_rfl) (fun _ _ _ h => h) (Or.inr ⟨by rfl, rfl⟩) hHeld ?_
                  try simp only [Act.put, List.setIfInBounds_toArray, List.set_cons_zero, List.set_cons_succ]
                  refine wpAnyH_take (i := 27) (oi := { dst := some 133, op := Op.pick (Operand.tmp 125) (Operand.const (Value.bool true)) (Operand.tmp 132), type := 4, pos := "outright.go:108", after := #[{ on := 19, ground := Ground.data }, { on := 26, ground := Ground.data }, { on := 2, ground := Ground.guard }], guard := some (2, true) }) (v := undef) rfl (by kernel_rfl) (by kernel_rfl) (by kernel_rfl) (fun _ _ _ h => h) (Or.inr ⟨by rfl, rfl⟩) hHeld ?_
                  try simp only [Act.put, List.setIfInBounds_toArray, List.set_cons_zero, List.set_cons_succ]
                  refine wpAnyH_take (i := 28) (oi := { dst := some 134, op := Op.move (Operand.tmp 133), type := 4, pos := "outright.go:108", after := #[{ on := 27, ground := Ground.data }, { on := 19, ground := Ground.chain }, { on := 2, ground := Ground.guard }], guard := some (2, true) }) (v := undef) rfl (by kernel_rfl) (by kernel_rfl) (by kernel_rfl) (fun _ _ _ h => h) (Or.inr ⟨by rfl, rfl⟩) hHeld ?_
                  try simp only [Act.put, List.setIfInBounds_toArray, List.set_cons_zero, List.set_cons_succ]
                  refine wpAnyH_take (i := 29) (oi := { dst := some 135, op := Op.fieldAddr 61 (Operand.tmp 9) 2, type := 0, pos := "outright.go:108", after := #[{ on := 28, ground := Ground.guard }], guard := some (28, false) }) (v := undef) rfl (by kernel_rfl) (by kernel_rfl) (by kernel_rfl) (fun _ _ _ h => h) (Or.inr ⟨by rfl, rfl⟩) hHeld ?_
                  try simp only [Act.put, List.setIfInBounds_toArray, List.set_cons_zero, List.set_cons_succ]
                  refine wpAnyH_take (i := 30) (oi := { dst := some 136, op := Op.load 3 (Operand.tmp 135), type := 3, pos := "outright.go:108", after := #[{ on := 29, ground := Ground.data }, { on := 28, ground := Ground.guard }], guard := some (28, false) }) (v := undef) rfl (by kernel_rfl) (by kernel_rfl) (by kernel_rfl) (fun _ _ _ h => h) (Or.inr ⟨by rfl, rfl⟩) hHeld ?_
                  try simp only [Act.put, List.setIfInBounds_toArray, List.set_cons_zero, List.set_cons_succ]
                  refine wpAnyH_take (i := 31) (oi := { dst := some 137, op := Op.call { callee := Callee.value (Operand.func 10), args := #[Operand.tmp 136], argTypes := #[3] }, type := 4, pos := "outright.go:108", after := #[{ on := 30, ground := Ground.data }, { on := 28, ground := Ground.chain }, { on := 28, ground := Ground.guard }], guard := some (28, false) }) (v := undef) rfl (by kernel_rfl) (by kernel_rfl) (by kernel_rfl) (fun _ _ _ h => h) (Or.inr ⟨by rfl, rfl⟩) hHeld ?_
                  try simp only [Act.put, List.setIfInBounds_toArray, List.set_cons_zero, List.set_cons_succ]
                  refine wpAnyH_take (i := 32) (oi := { dst := some 138, op := Op.unOp UnOp.not 4 (Operand.tmp 137), type := 4, pos := "outright.go:108", after := #[{ on := 31, ground := Ground.data }, { on := 28, ground := Ground.guard }], guard := some (28, false) }) (v := undef) rfl (by kernel_rfl) (by kernel_rfl) (by kernel_rfl) (fun _ _ _ h => h) (Or.inr ⟨by rfl, rfl⟩) hHeld ?_
                  try simp only [Act.put, List.setIfInBounds_toArray, List.set_cons_zero, List.set_cons_succ]
                  refine wpAnyH_take (i := 33) (oi := { dst := some 139, op := Op.pick (Operand.tmp 134) (Operand.const (Value.bool true)) (Operand.tmp 138), type := 4, pos := "outright.go:108", after := #[{ on := 28, ground := Ground.data }, { on := 32, ground := Ground.data }, { on := 2, ground := Ground.guard }], guard := some (2, true) }) (v := undef) rfl (by kernel_rfl) (by kernel_rfl) (by kernel_rfl) (fun _ _ _ h => h) (Or.inr ⟨by rfl, rfl⟩) hHeld ?_
                  try simp only [Act.put, List.setIfInBounds_toArray, List.set_cons_zero, List.set_cons_succ]
                  refine wpAnyH_take (i := 34) (oi := { dst := some 140, op := Op.move (Operand.tmp 139), type := 4, pos := "outright.go:108", after := #[{ on := 33, ground := Ground.data }, { on := 31, ground := Ground.chain }, { on := 2, ground := Ground.guard }], guard := some (2, true) }) (v := undef) rfl (by kernel_rfl) (by kernel_rfl) (by kernel_rfl) (fun _ _ _ h => h) (Or.inr ⟨by rfl, rfl⟩) hHeld ?_
                  try simp only [Act.put, List.setIfInBounds_toArray, List.set_cons_zero, List.set_cons_succ]
                  refine wpAnyH_take (i := 35) (oi := { dst := some 141, op := Op.move (Operand.tmp 10), type := 3, pos := "outright.go:108", after := #[{ on := 34, ground := Ground.guard }], guard := some (34, false) }) (v := undef) rfl (by kernel_rfl) (by kernel_rfl) (by kernel_rfl) (fun _ _ _ h => h) (Or.inr ⟨by rfl, rfl⟩) hHeld ?_
                  try simp only [Act.put, List.setIfInBounds_toArray, List.set_cons_zero, List.set_cons_succ]
                  refine wpAnyH_take (i := 36) (oi := { dst := some 142, op := Op.call { callee := Callee.value (Operand.func 10), args := #[Operand.tmp 141], argTypes := #[3] }, type := 4, pos := "outright.go:108", after := #[{ on := 35, ground := Ground.data }, { on := 34, ground := Ground.chain }, { on := 34, ground := Ground.guard }], guard := some (34, false) }) (v := undef) rfl (by kernel_rfl) (by kernel_rfl) (by kernel_rfl) (fun _ _ _ h => h) (Or.inr ⟨by rfl, rfl⟩) hHeld ?_
                  try simp only [Act.put, List.setIfInBounds_toArray, List.set_cons_zero, List.set_cons_succ]
                  refine wpAnyH_take (i := 37) (oi := { dst := some 143, op := Op.pick (Operand.tmp 140) (Operand.const (Value.bool true)) (Operand.tmp 142), type := 4, pos := "outright.go:108", after := #[{ on := 34, ground := Ground.data }, { on := 36, ground := Ground.data }, { on := 2, ground := Ground.guard }], guard := some (2, true) }) (v := undef) rfl (by kernel_rfl) (by kernel_rfl) (by kernel_rfl) (fun _ _ _ h => h) (Or.inr ⟨by rfl, rfl⟩) hHeld ?_
                  try simp only [Act.put, List.setIfInBounds_toArray, List.set_cons_zero, List.set_cons_succ]
                  refine wpAnyH_take (i := 38) (oi := { dst := some 144, op := Op.pick (Operand.tmp 108) (Operand.tmp 143) (Operand.const (Value.bool false)), type := 4, pos := "outright.go:108", after := #[{ on := 2, ground := Ground.data }, { on := 37, ground := Ground.data }], guard := none }) (v := ?_) rfl (by kernel_rfl) (by kernel_rfl) (by kernel_rfl) (fun _ _ _ h => h) (Or.inl ⟨by rfl, ?_⟩) hHeld ?_
                  rotate_left
                  · (intro w hSw; (try dsimp only at hSw); go_simp; try with_reducible rfl)
                  try simp only [Act.put, List.setIfInBounds_toArray, List.set_cons_zero, List.set_cons_succ]
                  refine wpAnyH_take (i := 39) (oi := { dst := some 145, op := Op.move (Operand.tmp 144), type := 4, pos := "outright.go:108", after := #[{ on := 38, ground := Ground.data }, { on := 36, ground := Ground.chain }], guard := none }) (v := ?_) rfl (by kernel_rfl) (by kernel_rfl) (by kernel_rfl) (fun _ _ _ h => h) (Or.inl ⟨by rfl, ?_⟩) hHeld ?_
                  rotate_left
                  · (intro w hSw; (try dsimp only at hSw); go_simp; try with_reducible rfl)
                  try simp only [Act.put, List.setIfInBounds_toArray, List.set_cons_zero, List.set_cons_succ]
                  refine wpAnyH_take (i := 40) (oi := { dst := some 146, op := Op.fieldAddr 61 (Operand.tmp 9) 1, type := 0, pos := "outright.go:108", after := #[{ on := 39, ground := Ground.guard }], guard := some (39, false) }) (v := ?_) rfl (by kernel_rfl) (by kernel_rfl) (by kernel_rfl) (fun _ _ _ h => h) (Or.inl ⟨by rfl, ?_⟩) hHeld ?_
                  rotate_left
                  · (intro w hSw; (try dsimp only at hSw); go_simp; try with_reducible rfl)
                  try simp only [Act.put, List.setIfInBounds_toArray, List.set_cons_zero, List.set_cons_succ]
                  refine wpAnyH_take (i := 41) (oi := { dst := some 147, op := Op.load 4 (Operand.tmp 146), type := 4, pos := "outright.go:108", after := #[{ on := 40, ground := Ground.data }, { on := 39, ground := Ground.guard }], guard := some (39, false) }) (v := ?_) rfl (by kernel_rfl) (by kernel_rfl) (by kernel_rfl) (fun _ _ _ h => h) (Or.inl ⟨by rfl, ?_⟩) hHeld ?_
                  rotate_left
                  · (intro w hSw; (try dsimp only at hSw); go_simp; try with_reducible rfl)
                  try simp only [Act.put, List.setIfInBounds_toArray, List.set_cons_zero, List.set_cons_succ]
                  refine wpAnyH_take (i := 42) (oi := { dst := some 148, op := Op.unOp UnOp.not 4 (Operand.tmp 147), type := 4, pos := "outright.go:108", after := #[{ on := 41, ground := Ground.data }, { on := 39, ground := Ground.guard }], guard := some (39, false) }) (v := ?_) rfl (by kernel_rfl) (by kernel_rfl) (by kernel_rfl) (fun _ _ _ h => h) (Or.inl ⟨by rfl, ?_⟩) hHeld ?_
                  rotate_left
                  · (intro w hSw; (try dsimp only at hSw); go_simp; try with_reducible rfl)
                  try simp only [Act.put, List.setIfInBounds_toArray, List.set_cons_zero, List.set_cons_succ]
                  refine wpAnyH_take (i := 43) (oi := { dst := some 149, op := Op.move (Operand.tmp 148), type := 4, pos := "outright.go:108", after := #[{ on := 42, ground := Ground.data }, { on := 39, ground := Ground.chain }, { on := 39, ground := Ground.guard }], guard := some (39, false) }) (v := ?_) rfl (by kernel_rfl) (by kernel_rfl) (by kernel_rfl) (fun _ _ _ h => h) (Or.inl ⟨by rfl, ?_⟩) hHeld ?_
                  rotate_left
                  · (intro w hSw; (try dsimp only at hSw); go_simp; try with_reducible rfl)
                  try simp only [Act.put, List.setIfInBounds_toArray, List.set_cons_zero, List.set_cons_succ]
                  refine wpAnyH_take (i := 44) (oi := { dst := some 150, op := Op.fieldAddr 61 (Operand.tmp 9) 2, type := 0, pos := "outright.go:108", after := #[{ on := 43, ground := Ground.guard }], guard := some (43, true) }) (v := ?_) rfl (by kernel_rfl) (by kernel_rfl) (by kernel_rfl) (fun _ _ _ h => h) (Or.inl ⟨by rfl, ?_⟩) hHeld ?_
                  rotate_left
                  · (intro w hSw; (try dsimp only at hSw); go_simp; try with_reducible rfl)
                  try simp only [Act.put, List.setIfInBounds_toArray, List.set_cons_zero, List.set_cons_succ]
                  refine wpAnyH_take (i := 45) (oi := { dst := some 151, op := Op.load 3 (Operand.tmp 150), type := 3, pos := "outright.go:108", after := #[{ on := 44, ground := Ground.data }, { on := 43, ground := Ground.guard }], guard := some (43, true) }) (v := ?_) rfl (by kernel_rfl) (by kernel_rfl) (by kernel_rfl) (fun _ _ _ h => h) (Or.inl ⟨by rfl, ?_⟩) hHeld ?_
                  rotate_left
                  · (intro w hSw; (try dsimp only at hSw); go_simp; try with_reducible rfl)
                  try simp only [Act.put, List.setIfInBounds_toArray, List.set_cons_zero, List.set_cons_succ]
                  refine wpAnyH_take (i := 46) (oi := { dst := some 152, op := Op.binOp BinOp.neq 3 (Operand.tmp 151) (Operand.const (Value.int IntKind.i64 (-1))) 3, type := 4, pos := "outright.go:108", after := #[{ on := 45, ground := Ground.data }, { on := 43, ground := Ground.guard }], guard := some (43, true) }) (v := ?_) rfl (by kernel_rfl) (by kernel_rfl) (by kernel_rfl) (fun _ _ _ h => h) (Or.inl ⟨by rfl, ?_⟩) hHeld ?_
                  rotate_left
                  · (intro w hSw; (try dsimp only at hSw); go_simp; try with_reducible rfl)
                  try simp only [Act.put, List.setIfInBounds_toArray, List.set_cons_zero, List.set_cons_succ]
                  refine wpAnyH_take (i := 47) (oi := { dst := some 153, op := Op.pick (Operand.tmp 149) (Operand.tmp 152) (Operand.const (Value.bool false)), type := 4, pos := "outright.go:108", after := #[{ on := 43, ground := Ground.data }, { on := 46, ground := Ground.data }, { on := 39, ground := Ground.guard }], guard := some (39, false) }) (v := ?_) rfl (by kernel_rfl) (by kernel_rfl) (by kernel_rfl) (fun _ _ _ h => h) (Or.inl ⟨by rfl, ?_⟩) hHeld ?_
                  rotate_left
                  · (intro w hSw; (try dsimp only at hSw); go_simp; try with_reducible rfl)
                  try simp only [Act.put, List.setIfInBounds_toArray, List.set_cons_zero, List.set_cons_succ]
                  refine wpAnyH_take (i := 48) (oi := { dst := some 154, op := Op.pick (Operand.tmp 145) (Operand.const (Value.bool true)) (Operand.tmp 153), type := 4, pos := "outright.go:108", after := #[{ on := 39, ground := Ground.data }, { on := 47, ground := Ground.data }], guard := none }) (v := ?_) rfl (by kernel_rfl) (by kernel_rfl) (by kernel_rfl) (fun _ _ _ h => h) (Or.inl ⟨by rfl, ?_⟩) hHeld ?_
                  rotate_left
                  · (intro w hSw; (try dsimp only at hSw); go_simp; try with_reducible rfl)
                  try simp only [Act.put, List.setIfInBounds_toArray, List.set_cons_zero, List.set_cons_succ]
                  refine wpAnyH_done (by kernel_rfl) ?_ _
                  go_wp2_with fail
                  go_meet
                  exact ⟨by first | rfl | simp, H0.out⟩
              case rest => as_aux_lemma =>
                obtain ⟨rfl, hbc⟩ := hcut
                have HC : Hid (Below wb.heap.size wb wc) := hbc.out
                clear hbc
                go_wp2_with fail
                go_loopw [12] (fun v12 wx => ∃ j : Nat, j ≤ k ∧ v12 = .int .i64 j ∧ Hid (Below wb.heap.size wb wx)) (fun v12 _ => k - (intOf v12).toNat)
                case atStart => exact ⟨0, Nat.zero_le _, rfl, HC.out⟩
                case round => as_aux_lemma =>
                  obtain ⟨j, hj, rfl, hB2⟩ := hrel
                  clear HC
                  have BW : Hid (Below w7.heap.size w7 wr) := HBB.out.trans (hB2.out.mono HBB.out.size)
                  by_cases hlt3 : j < k
                  · have n3 : (j : Int) < (k : Int) := by omega
                    have n4 : (j : Int) < (nh : Int) := by omega
                    obtain ⟨z, hz⟩ : ∃ z, ts[j]? = some z := ⟨_, List.getElem?_eq_getElem (by rw [SL7.out.n]; omega)⟩
                    obtain ⟨gb, eb, r0, r1, r2, _⟩ := (SL7.out.ha.under BW.out) j z hz
                    cases eb
                    have UN := HUN.out j z hlt3 hz
                    have z0 : wr.cell? ⟨S, 0, none⟩ = some (.slice (some ⟨ga, 0, none⟩) nh ch) := (CL.out wr BW.out).1.1
                    obtain ⟨s1, s2, _⟩ := KC.out wr hB2.out
                    clear hz r0
                    cases yf with
                    | false =>
                      clear UN r1 r2 s2 z0
                      go_upto_region 26 with fail
                      go_quiet (fail)
                      go_wp2
                      exact ⟨⟨j + 1, by omega, by go_num, fr_below_drewN hB2.out _⟩, by simp [intOf]; omega⟩
                    | true =>
                      cases ez : z.h.fl with
                      | false =>
                        rw [ez] at r1
                        clear UN r2 s2 ez
                        go_upto_region 26 with fail
                        go_quiet (fail)
                        go_wp2
                        exact ⟨⟨j + 1, by omega, by go_num, fr_below_drewN hB2.out _⟩, by simp [intOf]; omega⟩
                      | true =>
                        rw [ez] at r1
                        have une := UN ez rfl
                        clear UN ez
                        generalize z.h.var = zv at r2 une
                        have u1 : (zv == yv) = false := by simpa using une
                        have u2 : decide (zv = yv) = false := by simpa using une
                        go_upto_region 26 with fail
                        go_quiet (fail)
                        go_wp2
                        exact ⟨⟨j + 1, by omega, by go_num, fr_below_drewN hB2.out _⟩, by simp [intOf]; omega⟩
                  · have n3 : ¬ (j : Int) < (k : Int) := by omega
                    clear hB2 KC KB HFL HES HUN
                    go_wp2
                    refine ⟨⟨k + 1, by omega, by go_num, ?_⟩, by simp [intOf]; omega⟩
                    exact BW.out
            · have n2 : ¬ (k : Int) < (nh : Int) := by omega
              have BQ : Hid (Below w7.heap.size w7 wr) := hB.out
              clear hB hlt2
              go_wp2_with fail
              clear z0 n2
              go_loopw [13] (fun v13 wx => ∃ k : Nat, k ≤ np ∧ v13 = .int .i64 k ∧ Hid (Below w7.heap.size w7 wx)) (fun v13 _ => np - (intOf v13).toNat)
              case atStart => exact ⟨0, Nat.zero_le _, rfl, BQ.out⟩
              case round => as_aux_lemma =>
                obtain ⟨j, hj, rfl, hB⟩ := hrel
                clear BQ
                have z1 : wr.cell? ⟨S, 1, none⟩ = some (.slice ap np cp) := (CL.out wr hB.out).1.2
                by_cases hlt3 : j < np
                · have n3 : (j : Int) < (np : Int) := by omega
                  obtain ⟨⟨q1, q2⟩, hq⟩ : ∃ q, m[j]? = some q := ⟨_, List.getElem?_eq_getElem (by rw [SL7.out.k]; exact hlt3)⟩
                  obtain ⟨gp, op, ep, p0, p1⟩ := (SL7.out.hp.under hB.out) j _ hq
                  subst ep
                  obtain ⟨v1, v2, v3⟩ := norm_vars G1.out SL7.out.nm _ (List.mem_of_getElem? hq)
                  dsimp only at p0 p1 v1 v2 v3
                  have PV : Hid (∀ (i : Nat) (r : Pp), i < j → m[i]? = some r → ltP r (q1, q2)) := fun i r hi hr => by
                    obtain ⟨l1', e1⟩ := List.getElem?_eq_some_iff.1 hr
                    obtain ⟨l2', e2⟩ := List.getElem?_eq_some_iff.1 hq
                    have h5 := List.pairwise_iff_getElem.1 SL7.out.nm.up i j l1' l2' hi
                    rw [e1, e2] at h5
                    exact h5
                  obtain ⟨wa, hwa⟩ : ∃ wa, wa = wr.alloc (.cells #[.int .i64 q1, .int .i64 q2] 64) := ⟨_, rfl⟩
                  obtain ⟨Tb, hTb⟩ : ∃ Tb, wr.heap.size = Tb := ⟨_, rfl⟩
                  have HWA : Hid (wa = wr.alloc (.cells #[.int .i64 q1, .int .i64 q2] 64)) := hwa
                  have HTb : Hid (wr.heap.size = Tb) := hTb
                  have ba : Below wr.heap.size wr wa := by rw [hwa]; exact fr_below_alloc _ _
                  have ka : wa.heap[Tb]? = some (.cells #[.int .i64 q1, .int .i64 q2] 64 (0, 0)) := by rw [hwa, ← hTb]; exact heap_alloc_new wr _
                  have HBA : Hid (Below w7.heap.size w7 wa) := hB.out.trans (ba.mono hB.out.size)
                  have KC : Hid (∀ W, Below wa.heap.size wa W → W.cell? ⟨Tb, 0, none⟩ = some (.int .i64 q1) ∧ W.cell? ⟨Tb, 1, none⟩ = some (.int .i64 q2)) := fun W hW => by
                    have h1 := (hW.block Tb (Array.getElem?_eq_some_iff.1 ka).1).trans ka
                    exact ⟨M.cell_whole h1 0, M.cell_whole h1 1⟩
                  have V1 : Hid (∀ W, Calls Tryz.prog 10 #[.int .i64 q1] W fun e w' => e = .returned (.bool true) ∧ w' = W) := fun W => by have h := VA.out q1 W; rw [v1] at h; exact h
                  have V2 : Hid (∀ W, Calls Tryz.prog 10 #[.int .i64 q2] W fun e w' => e = .returned (.bool true) ∧ w' = W) := fun W => by have h := VA.out q2 W; rw [v2] at h; exact h
                  have HV3 : Hid (q1 < q2) := v3
                  clear hwa hTb ba ka hq v1 v2 v3
                  go_upto_region 32 with fail
                  rw [← HWA.out, HTb.out]
                  clear HWA HTb p0 p1 z1
                  have H0 : Hid (Below wa.heap.size wa wa.drew) := fr_below_drewN (Below.refl _ _) 1
                  go_cut [249] (fun v249 wx => v249 = .bool false ∧ Hid (Below wa.heap.size wa wx))
                  case first => as_aux_lemma =>
                    have g1 : decide (q2 ≤ q1) = false := by have := HV3.out; simp; omega
                    have g2 : ¬ q2 ≤ q1 := by have := HV3.out; omega
                    rcases Nat.eq_zero_or_pos j with hj0 | hj0
                    · subst hj0
                      have SF : Hid (∀ W, Below wa.heap.size wa W → W.cell? ⟨Tb, 0, none⟩ = some (.int .i64 q1) ∧ W.cell? ⟨Tb, 1, none⟩ = some (.int .i64 q2)) := fun W hW => KC.out W hW
                      refine wp_region_held_drew (S := fun w' => w'.cell? ⟨Tb, 0, none⟩ = some (.int .i64 q1) ∧ w'.cell? ⟨Tb, 1, none⟩ = some (.int .i64 q2)) (by kernel_rfl) ?_ (fun hHeld => ?_)
                      · exact SF.out _ H0.out
                      refine wpAnyH_take (i := 0) (oi := { dst := some 193, op := Op.fieldAddr 64 (Operand.tmp 14) 0, type := 0, pos := "outright.go:119", after := #[], guard := none }) (v := ?_) rfl (by kernel_rfl) (by kernel_rfl) (by kernel_rfl) (fun _ _ _ h => h) (Or.inl ⟨by rfl, ?_⟩) hHeld ?_
                      rotate_left
                      · (intro w hSw; (try dsimp only at hSw); go_simp; try with_reducible rfl)
                      try simp only [Act.put, List.setIfInBounds_toArray, List.set_cons_zero, List.set_cons_succ]
                      refine wpAnyH_take (i := 1) (oi := { dst := some 194, op := Op.load 3 (Operand.tmp 193), type := 3, pos := "outright.go:119", after := #[{ on := 0, ground := Ground.data }], guard := none }) (v := ?_) rfl (by kernel_rfl) (by kernel_rfl) (by kernel_rfl) (fun _ _ _ h => h) (Or.inl ⟨by rfl, ?_⟩) hHeld ?_
                      rotate_left
                      · (intro w hSw; (try dsimp only at hSw); go_simp; try with_reducible rfl)
                      try simp only [Act.put, List.setIfInBounds_toArray, List.set_cons_zero, List.set_cons_succ]
                      refine wpAnyH_take (i := 2) (oi := { dst := some 195, op := Op.fieldAddr 64 (Operand.tmp 14) 1, type := 0, pos := "outright.go:119", after := #[], guard := none }) (v := ?_) rfl (by kernel_rfl) (by kernel_rfl) (by kernel_rfl) (fun _ _ _ h => h) (Or.inl ⟨by rfl, ?_⟩) hHeld ?_
                      rotate_left
                      · (intro w hSw; (try dsimp only at hSw); go_simp; try with_reducible rfl)
                      try simp only [Act.put, List.setIfInBounds_toArray, List.set_cons_zero, List.set_cons_succ]
                      refine wpAnyH_take (i := 3) (oi := { dst := some 196, op := Op.load 3 (Operand.tmp 195), type := 3, pos := "outright.go:119", after := #[{ on := 2, ground := Ground.data }], guard := none }) (v := ?_) rfl (by kernel_rfl) (by kernel_rfl) (by kernel_rfl) (fun _ _ _ h => h) (Or.inl ⟨by rfl, ?_⟩) hHeld ?_
                      rotate_left
                      · (intro w hSw; (try dsimp only at hSw); go_simp; try with_reducible rfl)
                      try simp only [Act.put, List.setIfInBounds_toArray, List.set_cons_zero, List.set_cons_succ]
                      refine wpAnyH_take (i := 4) (oi := { dst := some 197, op := Op.binOp BinOp.geq 3 (Operand.tmp 194) (Operand.tmp 196) 3, type := 4, pos := "outright.go:119", after := #[{ on := 1, ground := Ground.data }, { on := 3, ground := Ground.data }], guard := none }) (v := ?_) rfl (by kernel_rfl) (by kernel_rfl) (by kernel_rfl) (fun _ _ _ h => h) (Or.inl ⟨by rfl, ?_⟩) hHeld ?_
                      rotate_left
                      · (intro w hSw; (try dsimp only at hSw); go_simp; try with_reducible rfl)
                      try simp only [Act.put, List.setIfInBounds_toArray, List.set_cons_zero, List.set_cons_succ]
                      refine wpAnyH_take (i := 5) (oi := { dst := some 198, op := Op.move (Operand.tmp 197), type := 4, pos := "outright.go:119", after := #[{ on := 4, ground := Ground.data }], guard := none }) (v := ?_) rfl (by kernel_rfl) (by kernel_rfl) (by kernel_rfl) (fun _ _ _ h => h) (Or.inl ⟨by rfl, ?_⟩) hHeld ?_
                      rotate_left
                      · (intro w hSw; (try dsimp only at hSw); go_simp; try with_reducible rfl)
                      try simp only [Act.put, List.setIfInBounds_toArray, List.set_cons_zero, List.set_cons_succ]
                      refine wpAnyH_take (i := 6) (oi := { dst := some 199, op := Op.fieldAddr 64 (Operand.tmp 14) 0, type := 0, pos := "outright.go:119", after := #[{ on := 5, ground := Ground.guard }], guard := some (5, false) }) (v := ?_) rfl (by kernel_rfl) (by kernel_rfl) (by kernel_rfl) (fun _ _ _ h => h) (Or.inl ⟨by rfl, ?_⟩) hHeld ?_
                      rotate_left
                      · (intro w hSw; (try dsimp only at hSw); go_simp; try with_reducible rfl)
                      try simp only [Act.put, List.setIfInBounds_toArray, List.set_cons_zero, List.set_cons_succ]
                      refine wpAnyH_take (i := 7) (oi := { dst := some 200, op := Op.load 3 (Operand.tmp 199), type := 3, pos := "outright.go:119", after := #[{ on := 6, ground := Ground.data }, { on := 5, ground := Ground.guard }], guard := some (5, false) }) (v := ?_) rfl (by kernel_rfl) (by kernel_rfl) (by kernel_rfl) (fun _ _ _ h => h) (Or.inl ⟨by rfl, ?_⟩) hHeld ?_
                      rotate_left
                      · (intro w hSw; (try dsimp only at hSw); go_simp; try with_reducible rfl)
                      try simp only [Act.put, List.setIfInBounds_toArray, List.set_cons_zero, List.set_cons_succ]
                      refine wpAnyH_ready (rs := [8]) (by kernel_rfl) (by simp) ?_
                      refine AllReadyH.cons (o := { dst := some 201, op := Op.call { callee := Callee.value (Operand.func 10), args := #[Operand.tmp 200], argTypes := #[3] }, type := 4, pos := "outright.go:119", after := #[{ on := 7, ground := Ground.data }, { on := 5, ground := Ground.chain }, { on := 5, ground := Ground.guard }], guard := some (5, false) }) rfl (fun K hK => ?_) AllReadyH.nil
                      go_simp
                      go_at_call 10
                      refine Calls.mono (V1.out _) ?_
                      rintro e wz ⟨rfl, hwz⟩
                      subst wz
                      try go_wp2_with fail
                      refine hK.out _ _ ?_ (fun hHeld_8 => ?_)
                      · exact SF.out _ H0.out
                      clear hK K
                      try simp only [Act.put, List.setIfInBounds_toArray, List.set_cons_zero, List.set_cons_succ]
                      refine wpAnyH_take (i := 9) (oi := { dst := some 202, op := Op.unOp UnOp.not 4 (Operand.tmp 201), type := 4, pos := "outright.go:119", after := #[{ on := 8, ground := Ground.data }, { on := 5, ground := Ground.guard }], guard := some (5, false) }) (v := ?_) rfl (by kernel_rfl) (by kernel_rfl) (by kernel_rfl) (fun _ _ _ h => h) (Or.inl ⟨by rfl, ?_⟩) hHeld_8 ?_
                      rotate_left
                      · (intro w hSw; (try dsimp only at hSw); go_simp; try with_reducible rfl)
                      try simp only [Act.put, List.setIfInBounds_toArray, List.set_cons_zero, List.set_cons_succ]
                      refine wpAnyH_take (i := 10) (oi := { dst := some 203, op := Op.pick (Operand.tmp 198) (Operand.const (Value.bool true)) (Operand.tmp 202), type := 4, pos := "outright.go:119", after := #[{ on := 5, ground := Ground.data }, { on := 9, ground := Ground.data }], guard := none }) (v := ?_) rfl (by kernel_rfl) (by kernel_rfl) (by kernel_rfl) (fun _ _ _ h => h) (Or.inl ⟨by rfl, ?_⟩) hHeld_8 ?_
                      rotate_left
                      · (intro w hSw; (try dsimp only at hSw); go_simp; try with_reducible rfl)
                      try simp only [Act.put, List.setIfInBounds_toArray, List.set_cons_zero, List.set_cons_succ]
                      refine wpAnyH_take (i := 11) (oi := { dst := some 204, op := Op.move (Operand.tmp 203), type := 4, pos := "outright.go:119", after := #[{ on := 10, ground := Ground.data }, { on := 8, ground := Ground.chain }], guard := none }) (v := ?_) rfl (by kernel_rfl) (by kernel_rfl) (by kernel_rfl) (fun _ _ _ h => h) (Or.inl ⟨by rfl, ?_⟩) hHeld_8 ?_
                      rotate_left
                      · (intro w hSw; (try dsimp only at hSw); go_simp; try with_reducible rfl)
                      try simp only [Act.put, List.setIfInBounds_toArray, List.set_cons_zero, List.set_cons_succ]
                      refine wpAnyH_take (i := 12) (oi := { dst := some 205, op := Op.fieldAddr 64 (Operand.tmp 14) 1, type := 0, pos := "outright.go:119", after := #[{ on := 11, ground := Ground.guard }], guard := some (11, false) }) (v := ?_) rfl (by kernel_rfl) (by kernel_rfl) (by kernel_rfl) (fun _ _ _ h => h) (Or.inl ⟨by rfl, ?_⟩) hHeld_8 ?_
                      rotate_left
                      · (intro w hSw; (try dsimp only at hSw); go_simp; try with_reducible rfl)
                      try simp only [Act.put, List.setIfInBounds_toArray, List.set_cons_zero, List.set_cons_succ]
                      refine wpAnyH_take (i := 13) (oi := { dst := some 206, op := Op.load 3 (Operand.tmp 205), type := 3, pos := "outright.go:119", after := #[{ on := 12, ground := Ground.data }, { on := 11, ground := Ground.guard }], guard := some (11, false) }) (v := ?_) rfl (by kernel_rfl) (by kernel_rfl) (by kernel_rfl) (fun _ _ _ h => h) (Or.inl ⟨by rfl, ?_⟩) hHeld_8 ?_
                      rotate_left
                      · (intro w hSw; (try dsimp only at hSw); go_simp; try with_reducible rfl)
                      try simp only [Act.put, List.setIfInBounds_toArray, List.set_cons_zero, List.set_cons_succ]
                      refine wpAnyH_ready (rs := [14]) (by kernel_rfl) (by simp) ?_
                      refine AllReadyH.cons (o := { dst := some 207, op := Op.call { callee := Callee.value (Operand.func 10), args := #[Operand.tmp 206], argTypes := #[3] }, type := 4, pos := "outright.go:119", after := #[{ on := 13, ground := Ground.data }, { on := 11, ground := Ground.chain }, { on := 11, ground := Ground.guard }], guard := some (11, false) }) rfl (fun K hK => ?_) AllReadyH.nil
                      go_simp
                      go_at_call 10
                      refine Calls.mono (V2.out _) ?_
                      rintro e wz ⟨rfl, hwz⟩
                      subst wz
                      try go_wp2_with fail
                      refine hK.out _ _ ?_ (fun hHeld_14 => ?_)
                      · exact SF.out _ H0.out
                      clear hK K
                      try simp only [Act.put, List.setIfInBounds_toArray, List.set_cons_zero, List.set_cons_succ]
                      refine wpAnyH_take (i := 15) (oi := { dst := some 208, op := Op.unOp UnOp.not 4 (Operand.tmp 207), type := 4, pos := "outright.go:119", after := #[{ on := 14, ground := Ground.data }, { on := 11, ground := Ground.guard }], guard := some (11, false) }) (v := ?_) rfl (by kernel_rfl) (by kernel_rfl) (by kernel_rfl) (fun _ _ _ h => h) (Or.inl ⟨by rfl, ?_⟩) hHeld_14 ?_
                      rotate_left
                      · (intro w hSw; (try dsimp only at hSw); go_simp; try with_reducible rfl)
                      try simp only [Act.put, List.setIfInBounds_toArray, List.set_cons_zero, List.set_cons_succ]
                      refine wpAnyH_take (i := 16) (oi := { dst := some 209, op := Op.pick (Operand.tmp 204) (Operand.const (Value.bool true)) (Operand.tmp 208), type := 4, pos := "outright.go:119", after := #[{ on := 11, ground := Ground.data }, { on := 15, ground := Ground.data }], guard := none }) (v := ?_) rfl (by kernel_rfl) (by kernel_rfl) (by kernel_rfl) (fun _ _ _ h => h) (Or.inl ⟨by rfl, ?_⟩) hHeld_14 ?_
                      rotate_left
                      · (intro w hSw; (try dsimp only at hSw); go_simp; try with_reducible rfl)
                      try simp only [Act.put, List.setIfInBounds_toArray, List.set_cons_zero, List.set_cons_succ]
                      refine wpAnyH_take (i := 17) (oi := { dst := some 210, op := Op.move (Operand.tmp 209), type := 4, pos := "outright.go:119", after := #[{ on := 16, ground := Ground.data }, { on := 14, ground := Ground.chain }], guard := none }) (v := ?_) rfl (by kernel_rfl) (by kernel_rfl) (by kernel_rfl) (fun _ _ _ h => h) (Or.inl ⟨by rfl, ?_⟩) hHeld_14 ?_
                      rotate_left
                      · (intro w hSw; (try dsimp only at hSw); go_simp; try with_reducible rfl)
                      try simp only [Act.put, List.setIfInBounds_toArray, List.set_cons_zero, List.set_cons_succ]
                      refine wpAnyH_take (i := 18) (oi := { dst := some 211, op := Op.move (Operand.tmp 13), type := 3, pos := "outright.go:119", after := #[{ on := 17, ground := Ground.guard }], guard := some (17, false) }) (v := ?_) rfl (by kernel_rfl) (by kernel_rfl) (by kernel_rfl) (fun _ _ _ h => h) (Or.inl ⟨by rfl, ?_⟩) hHeld_14 ?_
                      rotate_left
                      · (intro w hSw; (try dsimp only at hSw); go_simp; try with_reducible rfl)
                      try simp only [Act.put, List.setIfInBounds_toArray, List.set_cons_zero, List.set_cons_succ]
                      refine wpAnyH_take (i := 19) (oi := { dst := some 212, op := Op.binOp BinOp.gtr 3 (Operand.tmp 211) (Operand.const (Value.int IntKind.i64 0)) 3, type := 4, pos := "outright.go:119", after := #[{ on := 18, ground := Ground.data }, { on := 17, ground := Ground.guard }], guard := some (17, false) }) (v := ?_) rfl (by kernel_rfl) (by kernel_rfl) (by kernel_rfl) (fun _ _ _ h => h) (Or.inl ⟨by rfl, ?_⟩) hHeld_14 ?_
                      rotate_left
                      · (intro w hSw; (try dsimp only at hSw); go_simp; try with_reducible rfl)
                      try simp only [Act.put, List.setIfInBounds_toArray, List.set_cons_zero, List.set_cons_succ]
                      refine wpAnyH_take (i := 20) (oi := { dst := some 213, op := Op.move (Operand.tmp 212), type := 4, pos := "outright.go:119", after := #[{ on := 19, ground := Ground.data }, { on := 17, ground := Ground.chain }, { on := 17, ground := Ground.guard }], guard := some (17, false) }) (v := ?_) rfl (by kernel_rfl) (by kernel_rfl) (by kernel_rfl) (fun _ _ _ h => h) (Or.inl ⟨by rfl, ?_⟩) hHeld_14 ?_
                      rotate_left
                      · (intro w hSw; (try dsimp only at hSw); go_simp; try with_reducible rfl)
                      try simp only [Act.put, List.setIfInBounds_toArray, List.set_cons_zero, List.set_cons_succ]
                      refine wpAnyH_take (i := 21) (oi := { dst := some 214, op := Op.fieldAddr 37 (Operand.tmp 5) 1, type := 0, pos := "outright.go:119", after := #[{ on := 20, ground := Ground.guard }], guard := some (20, true) }) (v := undef) rfl (by kernel_rfl) (by kernel_rfl) (by kernel_rfl) (fun _ _ _ h => h) (Or.inr ⟨by rfl, rfl⟩) hHeld_14 ?_
                      try simp only [Act.put, List.setIfInBounds_toArray, List.set_cons_zero, List.set_cons_succ]
                      refine wpAnyH_take (i := 22) (oi := { dst := some 215, op := Op.load 35 (Operand.tmp 214), type := 35, pos := "outright.go:119", after := #[{ on := 21, ground := Ground.data }, { on := 20, ground := Ground.guard }], guard := some (20, true) }) (v := undef) rfl (by kernel_rfl) (by kernel_rfl) (by kernel_rfl) (fun _ _ _ h => h) (Or.inr ⟨by rfl, rfl⟩) hHeld_14 ?_
                      try simp only [Act.put, List.setIfInBounds_toArray, List.set_cons_zero, List.set_cons_succ]
                      refine wpAnyH_take (i := 23) (oi := { dst := some 216, op := Op.move (Operand.tmp 13), type := 3, pos := "outright.go:119", after := #[{ on := 20, ground := Ground.guard }], guard := some (20, true) }) (v := undef) rfl (by kernel_rfl) (by kernel_rfl) (by kernel_rfl) (fun _ _ _ h => h) (Or.inr ⟨by rfl, rfl⟩) hHeld_14 ?_
                      try simp only [Act.put, List.setIfInBounds_toArray, List.set_cons_zero, List.set_cons_succ]
                      refine wpAnyH_take (i := 24) (oi := { dst := some 217, op := Op.binOp BinOp.sub 3 (Operand.tmp 216) (Operand.const (Value.int IntKind.i64 1)) 3, type := 3, pos := "outright.go:119", after := #[{ on := 23, ground := Ground.data }, { on := 20, ground := Ground.guard }], guard := some (20, true) }) (v := undef) rfl (by kernel_rfl) (by kernel_rfl) (by kernel_rfl) (fun _ _ _ h => h) (Or.inr ⟨by rfl, rfl⟩) hHeld_14 ?_
                      try simp only [Act.put, List.setIfInBounds_toArray, List.set_cons_zero, List.set_cons_succ]
                      refine wpAnyH_take (i := 25) (oi := { dst := some 218, op := Op.indexAddr 35 (Operand.tmp 215) (Operand.tmp 217), type := 0, pos := "outright.go:119", after := #[{ on := 22, ground := Ground.data }, { on := 24, ground := Ground.data }, { on := 20, ground := Ground.guard }], guard := some (20, true) }) (v := undef) rfl (by kernel_rfl) (by kernel_rfl) (by kernel_rfl) (fun _ _ _ h => h) (Or.inr ⟨by rfl, rfl⟩) hHeld_14 ?_
                      try simp only [Act.put, List.setIfInBounds_toArray, List.set_cons_zero, List.set_cons_succ]
                      refine wpAnyH_take (i := 26) (oi := { dst := some 219, op := Op.fieldAddr 64 (Operand.tmp 218) 0, type := 0, pos := "outright.go:119", after := #[{ on := 25, ground := Ground.data }, { on := 20, ground := Ground.guard }], guard := some (20, true) }) (v := undef) rfl (by kernel_rfl) (by kernel_rfl) (by kernel_rfl) (fun _ _ _ h => h) (Or.inr ⟨by rfl, rfl⟩) hHeld_14 ?_
                      try simp only [Act.put, List.setIfInBounds_toArray, List.set_cons_zero, List.set_cons_succ]
                      refine wpAnyH_take (i := 27) (oi := { dst := some 220, op := Op.load 3 (Operand.tmp 219), type := 3, pos := "outright.go:119", after := #[{ on := 26, ground := Ground.data }, { on := 20, ground := Ground.guard }], guard := some (20, true) }) (v := undef) rfl (by kernel_rfl) (by kernel_rfl) (by kernel_rfl) (fun _ _ _ h => h) (Or.inr ⟨by rfl, rfl⟩) hHeld_14 ?_
                      try simp only [Act.put, List.setIfInBounds_toArray, List.set_cons_zero, List.set_cons_succ]
                      refine wpAnyH_take (i := 28) (oi := { dst := some 221, op := Op.fieldAddr 64 (Operand.tmp 14) 0, type := 0, pos := "outright.go:119", after := #[{ on := 20, ground := Ground.guard }], guard := some (20, true) }) (v := undef) rfl (by kernel_rfl) (by kernel_rfl) (by kernel_rfl) (fun _ _ _ h => h) (Or.inr ⟨by rfl, rfl⟩) hHeld_14 ?_
                      try simp only [Act.put, List.setIfInBounds_toArray, List.set_cons_zero, List.set_cons_succ]
                      refine wpAnyH_take (i := 29) (oi := { dst := some 222, op := Op.load 3 (Operand.tmp 221), type := 3, pos := "outright.go:119", after := #[{ on := 28, ground := Ground.data }, { on := 20, ground := Ground.guard }], guard := some (20, true) }) (v := undef) rfl (by kernel_rfl) (by kernel_rfl) (by kernel_rfl) (fun _ _ _ h => h) (Or.inr ⟨by rfl, rfl⟩) hHeld_14 ?_
                      try simp only [Act.put, List.setIfInBounds_toArray, List.set_cons_zero, List.set_cons_succ]
                      refine wpAnyH_take (i := 30) (oi := { dst := some 223, op := Op.binOp BinOp.gtr 3 (Operand.tmp 220) (Operand.tmp 222) 3, type := 4, pos := "outright.go:119", after := #[{ on := 27, ground := Ground.data }, { on := 29, ground := Ground.data }, { on := 20, ground := Ground.guard }], guard := some (20, true) }) (v := undef) rfl (by kernel_rfl) (by kernel_rfl) (by kernel_rfl) (fun _ _ _ h => h) (Or.inr ⟨by rfl, rfl⟩) hHeld_14 ?_
                      try simp only [Act.put, List.setIfInBounds_toArray, List.set_cons_zero, List.set_cons_succ]
                      refine wpAnyH_take (i := 31) (oi := { dst := some 224, op := Op.move (Operand.tmp 223), type := 4, pos := "outright.go:119", after := #[{ on := 30, ground := Ground.data }, { on := 20, ground := Ground.chain }, { on := 20, ground := Ground.guard }], guard := some (20, true) }) (v := undef) rfl (by kernel_rfl) (by kernel_rfl) (by kernel_rfl) (fun _ _ _ h => h) (Or.inr ⟨by rfl, rfl⟩) hHeld_14 ?_
                      try simp only [Act.put, List.setIfInBounds_toArray, List.set_cons_zero, List.set_cons_succ]
                      refine wpAnyH_take (i := 32) (oi := { dst := some 225, op := Op.fieldAddr 37 (Operand.tmp 5) 1, type := 0, pos := "outright.go:119", after := #[{ on := 31, ground := Ground.guard }], guard := some (31, false) }) (v := undef) rfl (by kernel_rfl) (by kernel_rfl) (by kernel_rfl) (fun _ _ _ h => h) (Or.inr ⟨by rfl, rfl⟩) hHeld_14 ?_
                      try simp only [Act.put, List.setIfInBounds_toArray, List.set_cons_zero, List.set_cons_succ]
                      refine wpAnyH_take (i := 33) (oi := { dst := some 226, op := Op.load 35 (Operand.tmp 225), type := 35, pos := "outright.go:119", after := #[{ on := 32, ground := Ground.data }, { on := 31, ground := Ground.guard }], guard := some (31, false) }) (v := undef) rfl (by kernel_rfl) (by kernel_rfl) (by kernel_rfl) (fun _ _ _ h => h) (Or.inr ⟨by rfl, rfl⟩) hHeld_14 ?_
                      try simp only [Act.put, List.setIfInBounds_toArray, List.set_cons_zero, List.set_cons_succ]
                      refine wpAnyH_take (i := 34) (oi := { dst := some 227, op := Op.move (Operand.tmp 13), type := 3, pos := "outright.go:119", after := #[{ on := 31, ground := Ground.guard }], guard := some (31, false) }) (v := undef) rfl (by kernel_rfl) (by kernel_rfl) (by kernel_rfl) (fun _ _ _ h => h) (Or.inr ⟨by rfl, rfl⟩) hHeld_14 ?_
                      try simp only [Act.put, List.setIfInBounds_toArray, List.set_cons_zero, List.set_cons_succ]
                      refine wpAnyH_take (i := 35) (oi := { dst := some 228, op := Op.binOp BinOp.sub 3 (Operand.tmp 227) (Operand.const (Value.int IntKind.i64 1)) 3, type := 3, pos := "outright.go:119", after := #[{ on := 34, ground := Ground.data }, { on := 31, ground := Ground.guard }], guard := some (31, false) }) (v := undef) rfl (by kernel_rfl) (by kernel_rfl) (by kernel_rfl) (fun _ _ _ h => h) (Or.inr ⟨by rfl, rfl⟩) hHeld_14 ?_
                      try simp only [Act.put, List.setIfInBounds_toArray, List.set_cons_zero, List.set_cons_succ]
                      refine wpAnyH_take (i := 36) (oi := { dst := some 229, op := Op.indexAddr 35 (Operand.tmp 226) (Operand.tmp 228), type := 0, pos := "outright.go:119", after := #[{ on := 33, ground := Ground.data }, { on := 35, ground := Ground.data }, { on := 31, ground := Ground.guard }], guard := some (31, false) }) (v := undef) rfl (by kernel_rfl) (by kernel_rfl) (by kernel_rfl) (fun _ _ _ h => h) (Or.inr ⟨by rfl, rfl⟩) hHeld_14 ?_
                      try simp only [Act.put, List.setIfInBounds_toArray, List.set_cons_zero, List.set_cons_succ]
                      refine wpAnyH_take (i := 37) (oi := { dst := some 230, op := Op.fieldAddr 64 (Operand.tmp 229) 0, type := 0, pos := "outright.go:119", after := #[{ on := 36, ground := Ground.data }, { on := 31, ground := Ground.guard }], guard := some (31, false) }) (v := undef) rfl (by kernel_rfl) (by kernel_rfl) (by kernel_rfl) (fun _ _ _ h => h) (Or.inr ⟨by rfl, rfl⟩) hHeld_14 ?_
                      try simp only [Act.put, List.setIfInBounds_toArray, List.set_cons_zero, List.set_cons_succ]
                      refine wpAnyH_take (i := 38) (oi := { dst := some 231, op := Op.load 3 (Operand.tmp 230), type := 3, pos := "outright.go:119", after := #[{ on := 37, ground := Ground.data }, { on := 31, ground := Ground.guard }], guard := some (31, false) }) (v := undef) rfl (by kernel_rfl) (by kernel_rfl) (by kernel_rfl) (fun _ _ _ h => h) (Or.inr ⟨by rfl, rfl⟩) hHeld_14 ?_
                      try simp only [Act.put, List.setIfInBounds_toArray, List.set_cons_zero, List.set_cons_succ]
                      refine wpAnyH_take (i := 39) (oi := { dst := some 232, op := Op.fieldAddr 64 (Operand.tmp 14) 0, type := 0, pos := "outright.go:119", after := #[{ on := 31, ground := Ground.guard }], guard := some (31, false) }) (v := undef) rfl (by kernel_rfl) (by kernel_rfl) (by kernel_rfl) (fun _ _ _ h => h) (Or.inr ⟨by rfl, rfl⟩) hHeld_14 ?_
                      try simp only [Act.put, List.setIfInBounds_toArray, List.set_cons_zero, List.set_cons_succ]
                      refine wpAnyH_take (i := 40) (oi := { dst := some 233, op := Op.load 3 (Operand.tmp 232), type := 3, pos := "outright.go:119", after := #[{ on := 39, ground := Ground.data }, { on := 31, ground := Ground.guard }], guard := some (31, false) }) (v := undef) rfl (by kernel_rfl) (by kernel_rfl) (by kernel_rfl) (fun _ _ _ h => h) (Or.inr ⟨by rfl, rfl⟩) hHeld_14 ?_
                      try simp only [Act.put, List.setIfInBounds_toArray, List.set_cons_zero, List.set_cons_succ]
                      refine wpAnyH_take (i := 41) (oi := { dst := some 234, op := Op.binOp BinOp.eql 3 (Operand.tmp 231) (Operand.tmp 233) 3, type := 4, pos := "outright.go:119", after := #[{ on := 38, ground := Ground.data }, { on := 40, ground := Ground.data }, { on := 31, ground := Ground.guard }], guard := some (31, false) }) (v := undef) rfl (by kernel_rfl) (by kernel_rfl) (by kernel_rfl) (fun _ _ _ h => h) (Or.inr ⟨by rfl, rfl⟩) hHeld_14 ?_
                      try simp only [Act.put, List.setIfInBounds_toArray, List.set_cons_zero, List.set_cons_succ]
                      refine wpAnyH_take (i := 42) (oi := { dst := some 235, op := Op.move (Operand.tmp 234), type := 4, pos := "outright.go:119", after := #[{ on := 41, ground := Ground.data }, { on := 31, ground := Ground.chain }, { on := 31, ground := Ground.guard }], guard := some (31, false) }) (v := undef) rfl (by kernel_rfl) (by kernel_rfl) (by kernel_rfl) (fun _ _ _ h => h) (Or.inr ⟨by rfl, rfl⟩) hHeld_14 ?_
                      try simp only [Act.put, List.setIfInBounds_toArray, List.set_cons_zero, List.set_cons_succ]
                      refine wpAnyH_take (i := 43) (oi := { dst := some 236, op := Op.fieldAddr 37 (Operand.tmp 5) 1, type := 0, pos := "outright.go:119", after := #[{ on := 42, ground := Ground.guard }], guard := some (42, true) }) (v := undef) rfl (by kernel_rfl) (by kernel_rfl) (by kernel_rfl) (fun _ _ _ h => h) (Or.inr ⟨by rfl, rfl⟩) hHeld_14 ?_
                      try simp only [Act.put, List.setIfInBounds_toArray, List.set_cons_zero, List.set_cons_succ]
                      refine wpAnyH_take (i := 44) (oi := { dst := some 237, op := Op.load 35 (Operand.tmp 236), type := 35, pos := "outright.go:119", after := #[{ on := 43, ground := Ground.data }, { on := 42, ground := Ground.guard }], guard := some (42, true) }) (v := undef) rfl (by kernel_rfl) (by kernel_rfl) (by kernel_rfl) (fun _ _ _ h => h) (Or.inr ⟨by rfl, rfl⟩) hHeld_14 ?_
                      try simp only [Act.put, List.setIfInBounds_toArray, List.set_cons_zero, List.set_cons_succ]
                      refine wpAnyH_take (i := 45) (oi := { dst := some 238, op := Op.move (Operand.tmp 13), type := 3, pos := "outright.go:119", after := #[{ on := 42, ground := Ground.guard }], guard := some (42, true) }) (v := undef) rfl (by kernel_rfl) (by kernel_rfl) (by kernel_rfl) (fun _ _ _ h => h) (Or.inr ⟨by rfl, rfl⟩) hHeld_14 ?_
                      try simp only [Act.put, List.setIfInBounds_toArray, List.set_cons_zero, List.set_cons_succ]
                      refine wpAnyH_take (i := 46) (oi := { dst := some 239, op := Op.binOp BinOp.sub 3 (Operand.tmp 238) (Operand.const (Value.int IntKind.i64 1)) 3, type := 3, pos := "outright.go:119", after := #[{ on := 45, ground := Ground.data }, { on := 42, ground := Ground.guard }], guard := some (42, true) }) (v := undef) rfl (by kernel_rfl) (by kernel_rfl) (by kernel_rfl) (fun _ _ _ h => h) (Or.inr ⟨by rfl, rfl⟩) hHeld_14 ?_
                      try simp only [Act.put, List.setIfInBounds_toArray, List.set_cons_zero, List.set_cons_succ]
                      refine wpAnyH_take (i := 47) (oi := { dst := some 240, op := Op.indexAddr 35 (Operand.tmp 237) (Operand.tmp 239), type := 0, pos := "outright.go:119", after := #[{ on := 44, ground := Ground.data }, { on := 46, ground := Ground.data }, { on := 42, ground := Ground.guard }], guard := some (42, true) }) (v := undef) rfl (by kernel_rfl) (by kernel_rfl) (by kernel_rfl) (fun _ _ _ h => h) (Or.inr ⟨by rfl, rfl⟩) hHeld_14 ?_
                      try simp only [Act.put, List.setIfInBounds_toArray, List.set_cons_zero, List.set_cons_succ]
                      refine wpAnyH_take (i := 48) (oi := { dst := some 241, op := Op.fieldAddr 64 (Operand.tmp 240) 1, type := 0, pos := "outright.go:119", after := #[{ on := 47, ground := Ground.data }, { on := 42, ground := Ground.guard }], guard := some (42, true) }) (v := undef) rfl (by kernel_rfl) (by kernel_rfl) (by kernel_rfl) (fun _ _ _ h => h) (Or.inr ⟨by rfl, rfl⟩) hHeld_14 ?_
                      try simp only [Act.put, List.setIfInBounds_toArray, List.set_cons_zero, List.set_cons_succ]
                      refine wpAnyH_take (i := 49) (oi := { dst := some 242, op := Op.load 3 (Operand.tmp 241), type := 3, pos := "outright.go:119", after := #[{ on := 48, ground := Ground.data }, { on := 42, ground := Ground.guard }], guard := some (42, true) }) (v := undef) rfl (by kernel_rfl) (by kernel_rfl) (by kernel_rfl) (fun _ _ _ h => h) (Or.inr ⟨by rfl, rfl⟩) hHeld_14 ?_
                      try simp only [Act.put, List.setIfInBounds_toArray, List.set_cons_zero, List.set_cons_succ]
                      refine wpAnyH_take (i := 50) (oi := { dst := some 243, op := Op.fieldAddr 64 (Operand.tmp 14) 1, type := 0, pos := "outright.go:119", after := #[{ on := 42, ground := Ground.guard }], guard := some (42, true) }) (v := undef) rfl (by kernel_rfl) (by kernel_rfl) (by kernel_rfl) (fun _ _ _ h => h) (Or.inr ⟨by rfl, rfl⟩) hHeld_14 ?_
                      try simp only [Act.put, List.setIfInBounds_toArray, List.set_cons_zero, List.set_cons_succ]
                      refine wpAnyH_take (i := 51) (oi := { dst := some 244, op := Op.load 3 (Operand.tmp 243), type := 3, pos := "outright.go:119", after := #[{ on := 50, ground := Ground.data }, { on := 42, ground := Ground.guard }], guard := some (42, true) }) (v := undef) rfl (by kernel_rfl) (by kernel_rfl) (by kernel_rfl) (fun _ _ _ h => h) (Or.inr ⟨by rfl, rfl⟩) hHeld_14 ?_
                      try simp only [Act.put, List.setIfInBounds_toArray, List.set_cons_zero, List.set_cons_succ]
                      refine wpAnyH_take (i := 52) (oi := { dst := some 245, op := Op.binOp BinOp.geq 3 (Operand.tmp 242) (Operand.tmp 244) 3, type := 4, pos := "outright.go:119", after := #[{ on := 49, ground := Ground.data }, { on := 51, ground := Ground.data }, { on := 42, ground := Ground.guard }], guard := some (42, true) }) (v := undef) rfl (by kernel_rfl) (by kernel_rfl) (by kernel_rfl) (fun _ _ _ h => h) (Or.inr ⟨by rfl, rfl⟩) hHeld_14 ?_
                      try simp only [Act.put, List.setIfInBounds_toArray, List.set_cons_zero, List.set_cons_succ]
                      refine wpAnyH_take (i := 53) (oi := { dst := some 246, op := Op.pick (Operand.tmp 235) (Operand.tmp 245) (Operand.const (Value.bool false)), type := 4, pos := "outright.go:119", after := #[{ on := 42, ground := Ground.data }, { on := 52, ground := Ground.data }, { on := 31, ground := Ground.guard }], guard := some (31, false) }) (v := undef) rfl (by kernel_rfl) (by kernel_rfl) (by kernel_rfl) (fun _ _ _ h => h) (Or.inr ⟨by rfl, rfl⟩) hHeld_14 ?_
                      try simp only [Act.put, List.setIfInBounds_toArray, List.set_cons_zero, List.set_cons_succ]
                      refine wpAnyH_take (i := 54) (oi := { dst := some 247, op := Op.pick (Operand.tmp 224) (Operand.const (Value.bool true)) (Operand.tmp 246), type := 4, pos := "outright.go:119", after := #[{ on := 31, ground := Ground.data }, { on := 53, ground := Ground.data }, { on := 20, ground := Ground.guard }], guard := some (20, true) }) (v := undef) rfl (by kernel_rfl) (by kernel_rfl) (by kernel_rfl) (fun _ _ _ h => h) (Or.inr ⟨by rfl, rfl⟩) hHeld_14 ?_
                      try simp only [Act.put, List.setIfInBounds_toArray, List.set_cons_zero, List.set_cons_succ]
                      refine wpAnyH_take (i := 55) (oi := { dst := some 248, op := Op.pick (Operand.tmp 213) (Operand.tmp 247) (Operand.const (Value.bool false)), type := 4, pos := "outright.go:119", after := #[{ on := 20, ground := Ground.data }, { on := 54, ground := Ground.data }, { on := 17, ground := Ground.guard }], guard := some (17, false) }) (v := ?_) rfl (by kernel_rfl) (by kernel_rfl) (by kernel_rfl) (fun _ _ _ h => h) (Or.inl ⟨by rfl, ?_⟩) hHeld_14 ?_
                      rotate_left
                      · (intro w hSw; (try dsimp only at hSw); go_simp; try with_reducible rfl)
                      try simp only [Act.put, List.setIfInBounds_toArray, List.set_cons_zero, List.set_cons_succ]
                      refine wpAnyH_take (i := 56) (oi := { dst := some 249, op := Op.pick (Operand.tmp 210) (Operand.const (Value.bool true)) (Operand.tmp 248), type := 4, pos := "outright.go:119", after := #[{ on := 17, ground := Ground.data }, { on := 55, ground := Ground.data }], guard := none }) (v := ?_) rfl (by kernel_rfl) (by kernel_rfl) (by kernel_rfl) (fun _ _ _ h => h) (Or.inl ⟨by rfl, ?_⟩) hHeld_14 ?_
                      rotate_left
                      · (intro w hSw; (try dsimp only at hSw); go_simp; try with_reducible rfl)
                      try simp only [Act.put, List.setIfInBounds_toArray, List.set_cons_zero, List.set_cons_succ]
                      refine wpAnyH_done (by kernel_rfl) ?_ _
                      go_wp2_with fail
                      go_meet
                      exact ⟨by first | rfl | simp, H0.out⟩
                    · obtain ⟨jp, rfl⟩ : ∃ jp, j = jp + 1 := ⟨j - 1, by omega⟩
                      obtain ⟨⟨r1, r2⟩, hr⟩ : ∃ r, m[jp]? = some r := ⟨_, List.getElem?_eq_getElem (by rw [SL7.out.k]; omega)⟩
                      obtain ⟨gp', op', ep', c0, c1⟩ := (SL7.out.hp.under HBA.out) jp _ hr
                      cases ep'
                      dsimp only at c0 c1
                      have LT := PV.out jp _ (by omega) hr
                      have hz1 := (CL.out wa HBA.out).1.2
                      have SF : Hid (∀ W, Below wa.heap.size wa W → W.cell? ⟨Tb, 0, none⟩ = some (.int .i64 q1) ∧ W.cell? ⟨Tb, 1, none⟩ = some (.int .i64 q2) ∧ W.cell? ⟨S, 1, none⟩ = some (.slice (some ⟨gp, op, none⟩) np cp) ∧ W.cell? ⟨gp, op + jp * 2, none⟩ = some (.int .i64 r1) ∧ W.cell? ⟨gp, op + jp * 2 + 1, none⟩ = some (.int .i64 r2)) := fun W hW => ⟨(KC.out W hW).1, (KC.out W hW).2, cell_under hW hz1, cell_under hW c0, cell_under hW c1⟩
                      have m1 : (0 : Int) < (jp : Int) + 1 := by omega
                      have m2 : (jp : Int) + 1 - 1 = (jp : Int) := by omega
                      have m3 : (jp : Int) < (np : Int) := by omega
                      have m4 : decide ((0 : Int) < (jp : Int) + 1) = true := decide_eq_true m1
                      have m5 : IntKind.i64.wrap (jp : Int) = (jp : Int) := fr_wrap64 _ (by omega) (by omega)
                      clear c0 c1 hr hz1
                      unfold ltP at LT
                      dsimp only at LT
                      by_cases hrq : r1 = q1
                      · subst hrq
                        have g3 : decide (q2 ≤ r2) = false := by simp; omega
                        have g4 : ¬ q2 ≤ r2 := by omega
                        clear LT
                        refine wp_region_held_drew (S := fun w' => w'.cell? ⟨Tb, 0, none⟩ = some (.int .i64 r1) ∧ w'.cell? ⟨Tb, 1, none⟩ = some (.int .i64 q2) ∧ w'.cell? ⟨S, 1, none⟩ = some (.slice (some ⟨gp, op, none⟩) np cp) ∧ w'.cell? ⟨gp, op + jp * 2, none⟩ = some (.int .i64 r1) ∧ w'.cell? ⟨gp, op + jp * 2 + 1, none⟩ = some (.int .i64 r2)) (by kernel_rfl) ?_ (fun hHeld => ?_)
                        · exact SF.out _ H0.out
                        refine wpAnyH_take (i := 0) (oi := { dst := some 193, op := Op.fieldAddr 64 (Operand.tmp 14) 0, type := 0, pos := "outright.go:119", after := #[], guard := none }) (v := ?_) rfl (by kernel_rfl) (by kernel_rfl) (by kernel_rfl) (fun _ _ _ h => h) (Or.inl ⟨by rfl, ?_⟩) hHeld ?_
                        rotate_left
                        · (intro w hSw; (try dsimp only at hSw); go_simp; try with_reducible rfl)
                        try simp only [Act.put, List.setIfInBounds_toArray, List.set_cons_zero, List.set_cons_succ]
                        refine wpAnyH_take (i := 1) (oi := { dst := some 194, op := Op.load 3 (Operand.tmp 193), type := 3, pos := "outright.go:119", after := #[{ on := 0, ground := Ground.data }], guard := none }) (v := ?_) rfl (by kernel_rfl) (by kernel_rfl) (by kernel_rfl) (fun _ _ _ h => h) (Or.inl ⟨by rfl, ?_⟩) hHeld ?_
                        rotate_left
                        · (intro w hSw; (try dsimp only at hSw); go_simp; try with_reducible rfl)
                        try simp only [Act.put, List.setIfInBounds_toArray, List.set_cons_zero, List.set_cons_succ]
                        refine wpAnyH_take (i := 2) (oi := { dst := some 195, op := Op.fieldAddr 64 (Operand.tmp 14) 1, type := 0, pos := "outright.go:119", after := #[], guard := none }) (v := ?_) rfl (by kernel_rfl) (by kernel_rfl) (by kernel_rfl) (fun _ _ _ h => h) (Or.inl ⟨by rfl, ?_⟩) hHeld ?_
                        rotate_left
                        · (intro w hSw; (try dsimp only at hSw); go_simp; try with_reducible rfl)
                        try simp only [Act.put, List.setIfInBounds_toArray, List.set_cons_zero, List.set_cons_succ]
                        refine wpAnyH_take (i := 3) (oi := { dst := some 196, op := Op.load 3 (Operand.tmp 195), type := 3, pos := "outright.go:119", after := #[{ on := 2, ground := Ground.data }], guard := none }) (v := ?_) rfl (by kernel_rfl) (by kernel_rfl) (by kernel_rfl) (fun _ _ _ h => h) (Or.inl ⟨by rfl, ?_⟩) hHeld ?_
                        rotate_left
                        · (intro w hSw; (try dsimp only at hSw); go_simp; try with_reducible rfl)
                        try simp only [Act.put, List.setIfInBounds_toArray, List.set_cons_zero, List.set_cons_succ]
                        refine wpAnyH_take (i := 4) (oi := { dst := some 197, op := Op.binOp BinOp.geq 3 (Operand.tmp 194) (Operand.tmp 196) 3, type := 4, pos := "outright.go:119", after := #[{ on := 1, ground := Ground.data }, { on := 3, ground := Ground.data }], guard := none }) (v := ?_) rfl (by kernel_rfl) (by kernel_rfl) (by kernel_rfl) (fun _ _ _ h => h) (Or.inl ⟨by rfl, ?_⟩) hHeld ?_
                        rotate_left
                        · (intro w hSw; (try dsimp only at hSw); go_simp; try with_reducible rfl)
                        try simp only [Act.put, List.setIfInBounds_toArray, List.set_cons_zero, List.set_cons_succ]
                        refine wpAnyH_take (i := 5) (oi := { dst := some 198, op := Op.move (Operand.tmp 197), type := 4, pos := "outright.go:119", after := #[{ on := 4, ground := Ground.data }], guard := none }) (v := ?_) rfl (by kernel_rfl) (by kernel_rfl) (by kernel_rfl) (fun _ _ _ h => h) (Or.inl ⟨by rfl, ?_⟩) hHeld ?_
                        rotate_left
                        · (intro w hSw; (try dsimp only at hSw); go_simp; try with_reducible rfl)
                        try simp only [Act.put, List.setIfInBounds_toArray, List.set_cons_zero, List.set_cons_succ]
                        refine wpAnyH_take (i := 6) (oi := { dst := some 199, op := Op.fieldAddr 64 (Operand.tmp 14) 0, type := 0, pos := "outright.go:119", after := #[{ on := 5, ground := Ground.guard }], guard := some (5, false) }) (v := ?_) rfl (by kernel_rfl) (by kernel_rfl) (by kernel_rfl) (fun _ _ _ h => h) (Or.inl ⟨by rfl, ?_⟩) hHeld ?_
                        rotate_left
                        · (intro w hSw; (try dsimp only at hSw); go_simp; try with_reducible rfl)
                        try simp only [Act.put, List.setIfInBounds_toArray, List.set_cons_zero, List.set_cons_succ]
                        refine wpAnyH_take (i := 7) (oi := { dst := some 200, op := Op.load 3 (Operand.tmp 199), type := 3, pos := "outright.go:119", after := #[{ on := 6, ground := Ground.data }, { on := 5, ground := Ground.guard }], guard := some (5, false) }) (v := ?_) rfl (by kernel_rfl) (by kernel_rfl) (by kernel_rfl) (fun _ _ _ h => h) (Or.inl ⟨by rfl, ?_⟩) hHeld ?_
                        rotate_left
                        · (intro w hSw; (try dsimp only at hSw); go_simp; try with_reducible rfl)
                        try simp only [Act.put, List.setIfInBounds_toArray, List.set_cons_zero, List.set_cons_succ]
                        refine wpAnyH_ready (rs := [8]) (by kernel_rfl) (by simp) ?_
                        refine AllReadyH.cons (o := { dst := some 201, op := Op.call { callee := Callee.value (Operand.func 10), args := #[Operand.tmp 200], argTypes := #[3] }, type := 4, pos := "outright.go:119", after := #[{ on := 7, ground := Ground.data }, { on := 5, ground := Ground.chain }, { on := 5, ground := Ground.guard }], guard := some (5, false) }) rfl (fun K hK => ?_) AllReadyH.nil
                        go_simp
                        go_at_call 10
                        refine Calls.mono (V1.out _) ?_
                        rintro e wz ⟨rfl, hwz⟩
                        subst wz
                        try go_wp2_with fail
                        refine hK.out _ _ ?_ (fun hHeld_8 => ?_)
                        · exact SF.out _ H0.out
                        clear hK K
                        try simp only [Act.put, List.setIfInBounds_toArray, List.set_cons_zero, List.set_cons_succ]
                        refine wpAnyH_take (i := 9) (oi := { dst := some 202, op := Op.unOp UnOp.not 4 (Operand.tmp 201), type := 4, pos := "outright.go:119", after := #[{ on := 8, ground := Ground.data }, { on := 5, ground := Ground.guard }], guard := some (5, false) }) (v := ?_) rfl (by kernel_rfl) (by kernel_rfl) (by kernel_rfl) (fun _ _ _ h => h) (Or.inl ⟨by rfl, ?_⟩) hHeld_8 ?_
                        rotate_left
                        · (intro w hSw; (try dsimp only at hSw); go_simp; try with_reducible rfl)
                        try simp only [Act.put, List.setIfInBounds_toArray, List.set_cons_zero, List.set_cons_succ]
                        refine wpAnyH_take (i := 10) (oi := { dst := some 203, op := Op.pick (Operand.tmp 198) (Operand.const (Value.bool true)) (Operand.tmp 202), type := 4, pos := "outright.go:119", after := #[{ on := 5, ground := Ground.data }, { on := 9, ground := Ground.data }], guard := none }) (v := ?_) rfl (by kernel_rfl) (by kernel_rfl) (by kernel_rfl) (fun _ _ _ h => h) (Or.inl ⟨by rfl, ?_⟩) hHeld_8 ?_
                        rotate_left
                        · (intro w hSw; (try dsimp only at hSw); go_simp; try with_reducible rfl)
                        try simp only [Act.put, List.setIfInBounds_toArray, List.set_cons_zero, List.set_cons_succ]
                        refine wpAnyH_take (i := 11) (oi := { dst := some 204, op := Op.move (Operand.tmp 203), type := 4, pos := "outright.go:119", after := #[{ on := 10, ground := Ground.data }, { on := 8, ground := Ground.chain }], guard := none }) (v := ?_) rfl (by kernel_rfl) (by kernel_rfl) (by kernel_rfl) (fun _ _ _ h => h) (Or.inl ⟨by rfl, ?_⟩) hHeld_8 ?_
                        rotate_left
                        · (intro w hSw; (try dsimp only at hSw); go_simp; try with_reducible rfl)
                        try simp only [Act.put, List.setIfInBounds_toArray, List.set_cons_zero, List.set_cons_succ]
                        refine wpAnyH_take (i := 12) (oi := { dst := some 205, op := Op.fieldAddr 64 (Operand.tmp 14) 1, type := 0, pos := "outright.go:119", after := #[{ on := 11, ground := Ground.guard }], guard := some (11, false) }) (v := ?_) rfl (by kernel_rfl) (by kernel_rfl) (by kernel_rfl) (fun _ _ _ h => h) (Or.inl ⟨by rfl, ?_⟩) hHeld_8 ?_
                        rotate_left
                        · (intro w hSw; (try dsimp only at hSw); go_simp; try with_reducible rfl)
                        try simp only [Act.put, List.setIfInBounds_toArray, List.set_cons_zero, List.set_cons_succ]
                        refine wpAnyH_take (i := 13) (oi := { dst := some 206, op := Op.load 3 (Operand.tmp 205), type := 3, pos := "outright.go:119", after := #[{ on := 12, ground := Ground.data }, { on := 11, ground := Ground.guard }], guard := some (11, false) }) (v := ?_) rfl (by kernel_rfl) (by kernel_rfl) (by kernel_rfl) (fun _ _ _ h => h) (Or.inl ⟨by rfl, ?_⟩) hHeld_8 ?_
                        rotate_left
                        · (intro w hSw; (try dsimp only at hSw); go_simp; try with_reducible rfl)
                        try simp only [Act.put, List.setIfInBounds_toArray, List.set_cons_zero, List.set_cons_succ]
                        refine wpAnyH_ready (rs := [14]) (by kernel_rfl) (by simp) ?_
                        refine AllReadyH.cons (o := { dst := some 207, op := Op.call { callee := Callee.value (Operand.func 10), args := #[Operand.tmp 206], argTypes := #[3] }, type := 4, pos := "outright.go:119", after := #[{ on := 13, ground := Ground.data }, { on := 11, ground := Ground.chain }, { on := 11, ground := Ground.guard }], guard := some (11, false) }) rfl (fun K hK => ?_) AllReadyH.nil
                        go_simp
                        go_at_call 10
                        refine Calls.mono (V2.out _) ?_
                        rintro e wz ⟨rfl, hwz⟩
                        subst wz
                        try go_wp2_with fail
                        refine hK.out _ _ ?_ (fun hHeld_14 => ?_)
                        · exact SF.out _ H0.out
                        clear hK K
                        try simp only [Act.put, List.setIfInBounds_toArray, List.set_cons_zero, List.set_cons_succ]
                        refine wpAnyH_take (i := 15) (oi := { dst := some 208, op := Op.unOp UnOp.not 4 (Operand.tmp 207), type := 4, pos := "outright.go:119", after := #[{ on := 14, ground := Ground.data }, { on := 11, ground := Ground.guard }], guard := some (11, false) }) (v := ?_) rfl (by kernel_rfl) (by kernel_rfl) (by kernel_rfl) (fun _ _ _ h => h) (Or.inl ⟨by rfl, ?_⟩) hHeld_14 ?_
                        rotate_left
                        · (intro w hSw; (try dsimp only at hSw); go_simp; try with_reducible rfl)
                        try simp only [Act.put, List.setIfInBounds_toArray, List.set_cons_zero, List.set_cons_succ]
                        refine wpAnyH_take (i := 16) (oi := { dst := some 209, op := Op.pick (Operand.tmp 204) (Operand.const (Value.bool true)) (Operand.tmp 208), type := 4, pos := "outright.go:119", after := #[{ on := 11, ground := Ground.data }, { on := 15, ground := Ground.data }], guard := none }) (v := ?_) rfl (by kernel_rfl) (by kernel_rfl) (by kernel_rfl) (fun _ _ _ h => h) (Or.inl ⟨by rfl, ?_⟩) hHeld_14 ?_
                        rotate_left
                        · (intro w hSw; (try dsimp only at hSw); go_simp; try with_reducible rfl)
                        try simp only [Act.put, List.setIfInBounds_toArray, List.set_cons_zero, List.set_cons_succ]
                        refine wpAnyH_take (i := 17) (oi := { dst := some 210, op := Op.move (Operand.tmp 209), type := 4, pos := "outright.go:119", after := #[{ on := 16, ground := Ground.data }, { on := 14, ground := Ground.chain }], guard := none }) (v := ?_) rfl (by kernel_rfl) (by kernel_rfl) (by kernel_rfl) (fun _ _ _ h => h) (Or.inl ⟨by rfl, ?_⟩) hHeld_14 ?_
                        rotate_left
                        · (intro w hSw; (try dsimp only at hSw); go_simp; try with_reducible rfl)
                        try simp only [Act.put, List.setIfInBounds_toArray, List.set_cons_zero, List.set_cons_succ]
                        refine wpAnyH_take (i := 18) (oi := { dst := some 211, op := Op.move (Operand.tmp 13), type := 3, pos := "outright.go:119", after := #[{ on := 17, ground := Ground.guard }], guard := some (17, false) }) (v := ?_) rfl (by kernel_rfl) (by kernel_rfl) (by kernel_rfl) (fun _ _ _ h => h) (Or.inl ⟨by rfl, ?_⟩) hHeld_14 ?_
                        rotate_left
                        · (intro w hSw; (try dsimp only at hSw); go_simp; try with_reducible rfl)
                        try simp only [Act.put, List.setIfInBounds_toArray, List.set_cons_zero, List.set_cons_succ]
                        refine wpAnyH_take (i := 19) (oi := { dst := some 212, op := Op.binOp BinOp.gtr 3 (Operand.tmp 211) (Operand.const (Value.int IntKind.i64 0)) 3, type := 4, pos := "outright.go:119", after := #[{ on := 18, ground := Ground.data }, { on := 17, ground := Ground.guard }], guard := some (17, false) }) (v := ?_) rfl (by kernel_rfl) (by kernel_rfl) (by kernel_rfl) (fun _ _ _ h => h) (Or.inl ⟨by rfl, ?_⟩) hHeld_14 ?_
                        rotate_left
                        · (intro w hSw; (try dsimp only at hSw); go_simp; try with_reducible rfl)
                        try simp only [Act.put, List.setIfInBounds_toArray, List.set_cons_zero, List.set_cons_succ]
                        refine wpAnyH_take (i := 20) (oi := { dst := some 213, op := Op.move (Operand.tmp 212), type := 4, pos := "outright.go:119", after := #[{ on := 19, ground := Ground.data }, { on := 17, ground := Ground.chain }, { on := 17, ground := Ground.guard }], guard := some (17, false) }) (v := ?_) rfl (by kernel_rfl) (by kernel_rfl) (by kernel_rfl) (fun _ _ _ h => h) (Or.inl ⟨by rfl, ?_⟩) hHeld_14 ?_
                        rotate_left
                        · (intro w hSw; (try dsimp only at hSw); go_simp; try with_reducible rfl)
                        try simp only [Act.put, List.setIfInBounds_toArray, List.set_cons_zero, List.set_cons_succ]
                        refine wpAnyH_take (i := 21) (oi := { dst := some 214, op := Op.fieldAddr 37 (Operand.tmp 5) 1, type := 0, pos := "outright.go:119", after := #[{ on := 20, ground := Ground.guard }], guard := some (20, true) }) (v := ?_) rfl (by kernel_rfl) (by kernel_rfl) (by kernel_rfl) (fun _ _ _ h => h) (Or.inl ⟨by rfl, ?_⟩) hHeld_14 ?_
                        rotate_left
                        · (intro w hSw; (try dsimp only at hSw); go_simp; try with_reducible rfl)
                        try simp only [Act.put, List.setIfInBounds_toArray, List.set_cons_zero, List.set_cons_succ]
                        refine wpAnyH_take (i := 22) (oi := { dst := some 215, op := Op.load 35 (Operand.tmp 214), type := 35, pos := "outright.go:119", after := #[{ on := 21, ground := Ground.data }, { on := 20, ground := Ground.guard }], guard := some (20, true) }) (v := ?_) rfl (by kernel_rfl) (by kernel_rfl) (by kernel_rfl) (fun _ _ _ h => h) (Or.inl ⟨by rfl, ?_⟩) hHeld_14 ?_
                        rotate_left
                        · (intro w hSw; (try dsimp only at hSw); go_simp; try with_reducible rfl)
                        try simp only [Act.put, List.setIfInBounds_toArray, List.set_cons_zero, List.set_cons_succ]
                        refine wpAnyH_take (i := 23) (oi := { dst := some 216, op := Op.move (Operand.tmp 13), type := 3, pos := "outright.go:119", after := #[{ on := 20, ground := Ground.guard }], guard := some (20, true) }) (v := ?_) rfl (by kernel_rfl) (by kernel_rfl) (by kernel_rfl) (fun _ _ _ h => h) (Or.inl ⟨by rfl, ?_⟩) hHeld_14 ?_
                        rotate_left
                        · (intro w hSw; (try dsimp only at hSw); go_simp; try with_reducible rfl)
                        try simp only [Act.put, List.setIfInBounds_toArray, List.set_cons_zero, List.set_cons_succ]
                        refine wpAnyH_take (i := 24) (oi := { dst := some 217, op := Op.binOp BinOp.sub 3 (Operand.tmp 216) (Operand.const (Value.int IntKind.i64 1)) 3, type := 3, pos := "outright.go:119", after := #[{ on := 23, ground := Ground.data }, { on := 20, ground := Ground.guard }], guard := some (20, true) }) (v := ?_) rfl (by kernel_rfl) (by kernel_rfl) (by kernel_rfl) (fun _ _ _ h => h) (Or.inl ⟨by rfl, ?_⟩) hHeld_14 ?_
                        rotate_left
                        · (intro w hSw; (try dsimp only at hSw); go_simp; try with_reducible rfl)
                        try simp only [Act.put, List.setIfInBounds_toArray, List.set_cons_zero, List.set_cons_succ]
                        refine wpAnyH_take (i := 25) (oi := { dst := some 218, op := Op.indexAddr 35 (Operand.tmp 215) (Operand.tmp 217), type := 0, pos := "outright.go:119", after := #[{ on := 22, ground := Ground.data }, { on := 24, ground := Ground.data }, { on := 20, ground := Ground.guard }], guard := some (20, true) }) (v := ?_) rfl (by kernel_rfl) (by kernel_rfl) (by kernel_rfl) (fun _ _ _ h => h) (Or.inl ⟨by rfl, ?_⟩) hHeld_14 ?_
                        rotate_left
                        · (intro w hSw; (try dsimp only at hSw); go_simp; try with_reducible rfl)
                        try simp only [Act.put, List.setIfInBounds_toArray, List.set_cons_zero, List.set_cons_succ]
                        refine wpAnyH_take (i := 26) (oi := { dst := some 219, op := Op.fieldAddr 64 (Operand.tmp 218) 0, type := 0, pos := "outright.go:119", after := #[{ on := 25, ground := Ground.data }, { on := 20, ground := Ground.guard }], guard := some (20, true) }) (v := ?_) rfl (by kernel_rfl) (by kernel_rfl) (by kernel_rfl) (fun _ _ _ h => h) (Or.inl ⟨by rfl, ?_⟩) hHeld_14 ?_
                        rotate_left
                        · (intro w hSw; (try dsimp only at hSw); go_simp; try with_reducible rfl)
                        try simp only [Act.put, List.setIfInBounds_toArray, List.set_cons_zero, List.set_cons_succ]
                        refine wpAnyH_take (i := 27) (oi := { dst := some 220, op := Op.load 3 (Operand.tmp 219), type := 3, pos := "outright.go:119", after := #[{ on := 26, ground := Ground.data }, { on := 20, ground := Ground.guard }], guard := some (20, true) }) (v := ?_) rfl (by kernel_rfl) (by kernel_rfl) (by kernel_rfl) (fun _ _ _ h => h) (Or.inl ⟨by rfl, ?_⟩) hHeld_14 ?_
                        rotate_left
                        · (intro w hSw; (try dsimp only at hSw); go_simp; try with_reducible rfl)
                        try simp only [Act.put, List.setIfInBounds_toArray, List.set_cons_zero, List.set_cons_succ]
                        refine wpAnyH_take (i := 28) (oi := { dst := some 221, op := Op.fieldAddr 64 (Operand.tmp 14) 0, type := 0, pos := "outright.go:119", after := #[{ on := 20, ground := Ground.guard }], guard := some (20, true) }) (v := ?_) rfl (by kernel_rfl) (by kernel_rfl) (by kernel_rfl) (fun _ _ _ h => h) (Or.inl ⟨by rfl, ?_⟩) hHeld_14 ?_
                        rotate_left
                        · (intro w hSw; (try dsimp only at hSw); go_simp; try with_reducible rfl)
                        try simp only [Act.put, List.setIfInBounds_toArray, List.set_cons_zero, List.set_cons_succ]
                        refine wpAnyH_take (i := 29) (oi := { dst := some 222, op := Op.load 3 (Operand.tmp 221), type := 3, pos := "outright.go:119", after := #[{ on := 28, ground := Ground.data }, { on := 20, ground := Ground.guard }], guard := some (20, true) }) (v := ?_) rfl (by kernel_rfl) (by kernel_rfl) (by kernel_rfl) (fun _ _ _ h => h) (Or.inl ⟨by rfl, ?_⟩) hHeld_14 ?_
                        rotate_left
                        · (intro w hSw; (try dsimp only at hSw); go_simp; try with_reducible rfl)
                        try simp only [Act.put, List.setIfInBounds_toArray, List.set_cons_zero, List.set_cons_succ]
                        refine wpAnyH_take (i := 30) (oi := { dst := some 223, op := Op.binOp BinOp.gtr 3 (Operand.tmp 220) (Operand.tmp 222) 3, type := 4, pos := "outright.go:119", after := #[{ on := 27, ground := Ground.data }, { on := 29, ground := Ground.data }, { on := 20, ground := Ground.guard }], guard := some (20, true) }) (v := ?_) rfl (by kernel_rfl) (by kernel_rfl) (by kernel_rfl) (fun _ _ _ h => h) (Or.inl ⟨by rfl, ?_⟩) hHeld_14 ?_
                        rotate_left
                        · (intro w hSw; (try dsimp only at hSw); go_simp; try with_reducible rfl)
                        try simp only [Act.put, List.setIfInBounds_toArray, List.set_cons_zero, List.set_cons_succ]
                        refine wpAnyH_take (i := 31) (oi := { dst := some 224, op := Op.move (Operand.tmp 223), type := 4, pos := "outright.go:119", after := #[{ on := 30, ground := Ground.data }, { on := 20, ground := Ground.chain }, { on := 20, ground := Ground.guard }], guard := some (20, true) }) (v := ?_) rfl (by kernel_rfl) (by kernel_rfl) (by kernel_rfl) (fun _ _ _ h => h) (Or.inl ⟨by rfl, ?_⟩) hHeld_14 ?_
                        rotate_left
                        · (intro w hSw; (try dsimp only at hSw); go_simp; try with_reducible rfl)
                        try simp only [Act.put, List.setIfInBounds_toArray, List.set_cons_zero, List.set_cons_succ]
                        refine wpAnyH_take (i := 32) (oi := { dst := some 225, op := Op.fieldAddr 37 (Operand.tmp 5) 1, type := 0, pos := "outright.go:119", after := #[{ on := 31, ground := Ground.guard }], guard := some (31, false) }) (v := ?_) rfl (by kernel_rfl) (by kernel_rfl) (by kernel_rfl) (fun _ _ _ h => h) (Or.inl ⟨by rfl, ?_⟩) hHeld_14 ?_
                        rotate_left
                        · (intro w hSw; (try dsimp only at hSw); go_simp; try with_reducible rfl)
                        try simp only [Act.put, List.setIfInBounds_toArray, List.set_cons_zero, List.set_cons_succ]
                        refine wpAnyH_take (i := 33) (oi := { dst := some 226, op := Op.load 35 (Operand.tmp 225), type := 35, pos := "outright.go:119", after := #[{ on := 32, ground := Ground.data }, { on := 31, ground := Ground.guard }], guard := some (31, false) }) (v := ?_) rfl (by kernel_rfl) (by kernel_rfl) (by kernel_rfl) (fun _ _ _ h => h) (Or.inl ⟨by rfl, ?_⟩) hHeld_14 ?_
                        rotate_left
                        · (intro w hSw; (try dsimp only at hSw); go_simp; try with_reducible rfl)
                        try simp only [Act.put, List.setIfInBounds_toArray, List.set_cons_zero, List.set_cons_succ]
                        refine wpAnyH_take (i := 34) (oi := { dst := some 227, op := Op.move (Operand.tmp 13), type := 3, pos := "outright.go:119", after := #[{ on := 31, ground := Ground.guard }], guard := some (31, false) }) (v := ?_) rfl (by kernel_rfl) (by kernel_rfl) (by kernel_rfl) (fun _ _ _ h => h) (Or.inl ⟨by rfl, ?_⟩) hHeld_14 ?_
                        rotate_left
                        · (intro w hSw; (try dsimp only at hSw); go_simp; try with_reducible rfl)
                        try simp only [Act.put, List.setIfInBounds_toArray, List.set_cons_zero, List.set_cons_succ]
                        refine wpAnyH_take (i := 35) (oi := { dst := some 228, op := Op.binOp BinOp.sub 3 (Operand.tmp 227) (Operand.const (Value.int IntKind.i64 1)) 3, type := 3, pos := "outright.go:119", after := #[{ on := 34, ground := Ground.data }, { on := 31, ground := Ground.guard }], guard := some (31, false) }) (v := ?_) rfl (by kernel_rfl) (by kernel_rfl) (by kernel_rfl) (fun _ _ _ h => h) (Or.inl ⟨by rfl, ?_⟩) hHeld_14 ?_
                        rotate_left
                        · (intro w hSw; (try dsimp only at hSw); go_simp; try with_reducible rfl)
                        try simp only [Act.put, List.setIfInBounds_toArray, List.set_cons_zero, List.set_cons_succ]
                        refine wpAnyH_take (i := 36) (oi := { dst := some 229, op := Op.indexAddr 35 (Operand.tmp 226) (Operand.tmp 228), type := 0, pos := "outright.go:119", after := #[{ on := 33, ground := Ground.data }, { on := 35, ground := Ground.data }, { on := 31, ground := Ground.guard }], guard := some (31, false) }) (v := ?_) rfl (by kernel_rfl) (by kernel_rfl) (by kernel_rfl) (fun _ _ _ h => h) (Or.inl ⟨by rfl, ?_⟩) hHeld_14 ?_
                        rotate_left
                        · (intro w hSw; (try dsimp only at hSw); go_simp; try with_reducible rfl)
                        try simp only [Act.put, List.setIfInBounds_toArray, List.set_cons_zero, List.set_cons_succ]
                        refine wpAnyH_take (i := 37) (oi := { dst := some 230, op := Op.fieldAddr 64 (Operand.tmp 229) 0, type := 0, pos := "outright.go:119", after := #[{ on := 36, ground := Ground.data }, { on := 31, ground := Ground.guard }], guard := some (31, false) }) (v := ?_) rfl (by kernel_rfl) (by kernel_rfl) (by kernel_rfl) (fun _ _ _ h => h) (Or.inl ⟨by rfl, ?_⟩) hHeld_14 ?_
                        rotate_left
                        · (intro w hSw; (try dsimp only at hSw); go_simp; try with_reducible rfl)
                        try simp only [Act.put, List.setIfInBounds_toArray, List.set_cons_zero, List.set_cons_succ]
                        refine wpAnyH_take (i := 38) (oi := { dst := some 231, op := Op.load 3 (Operand.tmp 230), type := 3, pos := "outright.go:119", after := #[{ on := 37, ground := Ground.data }, { on := 31, ground := Ground.guard }], guard := some (31, false) }) (v := ?_) rfl (by kernel_rfl) (by kernel_rfl) (by kernel_rfl) (fun _ _ _ h => h) (Or.inl ⟨by rfl, ?_⟩) hHeld_14 ?_
                        rotate_left
                        · (intro w hSw; (try dsimp only at hSw); go_simp; try with_reducible rfl)
                        try simp only [Act.put, List.setIfInBounds_toArray, List.set_cons_zero, List.set_cons_succ]
                        refine wpAnyH_take (i := 39) (oi := { dst := some 232, op := Op.fieldAddr 64 (Operand.tmp 14) 0, type := 0, pos := "outright.go:119", after := #[{ on := 31, ground := Ground.guard }], guard := some (31, false) }) (v := ?_) rfl (by kernel_rfl) (by kernel_rfl) (by kernel_rfl) (fun _ _ _ h => h) (Or.inl ⟨by rfl, ?_⟩) hHeld_14 ?_
                        rotate_left
                        · (intro w hSw; (try dsimp only at hSw); go_simp; try with_reducible rfl)
                        try simp only [Act.put, List.setIfInBounds_toArray, List.set_cons_zero, List.set_cons_succ]
                        refine wpAnyH_take (i := 40) (oi := { dst := some 233, op := Op.load 3 (Operand.tmp 232), type := 3, pos := "outright.go:119", after := #[{ on := 39, ground := Ground.data }, { on := 31, ground := Ground.guard }], guard := some (31, false) }) (v := ?_) rfl (by kernel_rfl) (by kernel_rfl) (by kernel_rfl) (fun _ _ _ h => h) (Or.inl ⟨by rfl, ?_⟩) hHeld_14 ?_
                        rotate_left
                        · (intro w hSw; (try dsimp only at hSw); go_simp; try with_reducible rfl)
                        try simp only [Act.put, List.setIfInBounds_toArray, List.set_cons_zero, List.set_cons_succ]
                        refine wpAnyH_take (i := 41) (oi := { dst := some 234, op := Op.binOp BinOp.eql 3 (Operand.tmp 231) (Operand.tmp 233) 3, type := 4, pos := "outright.go:119", after := #[{ on := 38, ground := Ground.data }, { on := 40, ground := Ground.data }, { on := 31, ground := Ground.guard }], guard := some (31, false) }) (v := ?_) rfl (by kernel_rfl) (by kernel_rfl) (by kernel_rfl) (fun _ _ _ h => h) (Or.inl ⟨by rfl, ?_⟩) hHeld_14 ?_
                        rotate_left
                        · (intro w hSw; (try dsimp only at hSw); go_simp; try with_reducible rfl)
                        try simp only [Act.put, List.setIfInBounds_toArray, List.set_cons_zero, List.set_cons_succ]
                        refine wpAnyH_take (i := 42) (oi := { dst := some 235, op := Op.move (Operand.tmp 234), type := 4, pos := "outright.go:119", after := #[{ on := 41, ground := Ground.data }, { on := 31, ground := Ground.chain }, { on := 31, ground := Ground.guard }], guard := some (31, false) }) (v := ?_) rfl (by kernel_rfl) (by kernel_rfl) (by kernel_rfl) (fun _ _ _ h => h) (Or.inl ⟨by rfl, ?_⟩) hHeld_14 ?_
                        rotate_left
                        · (intro w hSw; (try dsimp only at hSw); go_simp; try with_reducible rfl)
                        try simp only [Act.put, List.setIfInBounds_toArray, List.set_cons_zero, List.set_cons_succ]
                        refine wpAnyH_take (i := 43) (oi := { dst := some 236, op := Op.fieldAddr 37 (Operand.tmp 5) 1, type := 0, pos := "outright.go:119", after := #[{ on := 42, ground := Ground.guard }], guard := some (42, true) }) (v := ?_) rfl (by kernel_rfl) (by kernel_rfl) (by kernel_rfl) (fun _ _ _ h => h) (Or.inl ⟨by rfl, ?_⟩) hHeld_14 ?_
                        rotate_left
                        · (intro w hSw; (try dsimp only at hSw); go_simp; try with_reducible rfl)
                        try simp only [Act.put, List.setIfInBounds_toArray, List.set_cons_zero, List.set_cons_succ]
                        refine wpAnyH_take (i := 44) (oi := { dst := some 237, op := Op.load 35 (Operand.tmp 236), type := 35, pos := "outright.go:119", after := #[{ on := 43, ground := Ground.data }, { on := 42, ground := Ground.guard }], guard := some (42, true) }) (v := ?_) rfl (by kernel_rfl) (by kernel_rfl) (by kernel_rfl) (fun _ _ _ h => h) (Or.inl ⟨by rfl, ?_⟩) hHeld_14 ?_
                        rotate_left
                        · (intro w hSw; (try dsimp only at hSw); go_simp; try with_reducible rfl)
                        try simp only [Act.put, List.setIfInBounds_toArray, List.set_cons_zero, List.set_cons_succ]
                        refine wpAnyH_take (i := 45) (oi := { dst := some 238, op := Op.move (Operand.tmp 13), type := 3, pos := "outright.go:119", after := #[{ on := 42, ground := Ground.guard }], guard := some (42, true) }) (v := ?_) rfl (by kernel_rfl) (by kernel_rfl) (by kernel_rfl) (fun _ _ _ h => h) (Or.inl ⟨by rfl, ?_⟩) hHeld_14 ?_
                        rotate_left
                        · (intro w hSw; (try dsimp only at hSw); go_simp; try with_reducible rfl)
                        try simp only [Act.put, List.setIfInBounds_toArray, List.set_cons_zero, List.set_cons_succ]
                        refine wpAnyH_take (i := 46) (oi := { dst := some 239, op := Op.binOp BinOp.sub 3 (Operand.tmp 238) (Operand.const (Value.int IntKind.i64 1)) 3, type := 3, pos := "outright.go:119", after := #[{ on := 45, ground := Ground.data }, { on := 42, ground := Ground.guard }], guard := some (42, true) }) (v := ?_) rfl (by kernel_rfl) (by kernel_rfl) (by kernel_rfl) (fun _ _ _ h => h) (Or.inl ⟨by rfl, ?_⟩) hHeld_14 ?_
                        rotate_left
                        · (intro w hSw; (try dsimp only at hSw); go_simp; try with_reducible rfl)
                        try simp only [Act.put, List.setIfInBounds_toArray, List.set_cons_zero, List.set_cons_succ]
                        refine wpAnyH_take (i := 47) (oi := { dst := some 240, op := Op.indexAddr 35 (Operand.tmp 237) (Operand.tmp 239), type := 0, pos := "outright.go:119", after := #[{ on := 44, ground := Ground.data }, { on := 46, ground := Ground.data }, { on := 42, ground := Ground.guard }], guard := some (42, true) }) (v := ?_) rfl (by kernel_rfl) (by kernel_rfl) (by kernel_rfl) (fun _ _ _ h => h) (Or.inl ⟨by rfl, ?_⟩) hHeld_14 ?_
                        rotate_left
                        · (intro w hSw; (try dsimp only at hSw); go_simp; try with_reducible rfl)
                        try simp only [Act.put, List.setIfInBounds_toArray, List.set_cons_zero, List.set_cons_succ]
                        refine wpAnyH_take (i := 48) (oi := { dst := some 241, op := Op.fieldAddr 64 (Operand.tmp 240) 1, type := 0, pos := "outright.go:119", after := #[{ on := 47, ground := Ground.data }, { on := 42, ground := Ground.guard }], guard := some (42, true) }) (v := ?_) rfl (by kernel_rfl) (by kernel_rfl) (by kernel_rfl) (fun _ _ _ h => h) (Or.inl ⟨by rfl, ?_⟩) hHeld_14 ?_
                        rotate_left
                        · (intro w hSw; (try dsimp only at hSw); go_simp; try with_reducible rfl)
                        try simp only [Act.put, List.setIfInBounds_toArray, List.set_cons_zero, List.set_cons_succ]
                        refine wpAnyH_take (i := 49) (oi := { dst := some 242, op := Op.load 3 (Operand.tmp 241), type := 3, pos := "outright.go:119", after := #[{ on := 48, ground := Ground.data }, { on := 42, ground := Ground.guard }], guard := some (42, true) }) (v := ?_) rfl (by kernel_rfl) (by kernel_rfl) (by kernel_rfl) (fun _ _ _ h => h) (Or.inl ⟨by rfl, ?_⟩) hHeld_14 ?_
                        rotate_left
                        · (intro w hSw; (try dsimp only at hSw); go_simp; try with_reducible rfl)
                        try simp only [Act.put, List.setIfInBounds_toArray, List.set_cons_zero, List.set_cons_succ]
                        refine wpAnyH_take (i := 50) (oi := { dst := some 243, op := Op.fieldAddr 64 (Operand.tmp 14) 1, type := 0, pos := "outright.go:119", after := #[{ on := 42, ground := Ground.guard }], guard := some (42, true) }) (v := ?_) rfl (by kernel_rfl) (by kernel_rfl) (by kernel_rfl) (fun _ _ _ h => h) (Or.inl ⟨by rfl, ?_⟩) hHeld_14 ?_
                        rotate_left
                        · (intro w hSw; (try dsimp only at hSw); go_simp; try with_reducible rfl)
                        try simp only [Act.put, List.setIfInBounds_toArray, List.set_cons_zero, List.set_cons_succ]
                        refine wpAnyH_take (i := 51) (oi := { dst := some 244, op := Op.load 3 (Operand.tmp 243), type := 3, pos := "outright.go:119", after := #[{ on := 50, ground := Ground.data }, { on := 42, ground := Ground.guard }], guard := some (42, true) }) (v := ?_) rfl (by kernel_rfl) (by kernel_rfl) (by kernel_rfl) (fun _ _ _ h => h) (Or.inl ⟨by rfl, ?_⟩) hHeld_14 ?_
                        rotate_left
                        · (intro w hSw; (try dsimp only at hSw); go_simp; try with_reducible rfl)
                        try simp only [Act.put, List.setIfInBounds_toArray, List.set_cons_zero, List.set_cons_succ]
                        refine wpAnyH_take (i := 52) (oi := { dst := some 245, op := Op.binOp BinOp.geq 3 (Operand.tmp 242) (Operand.tmp 244) 3, type := 4, pos := "outright.go:119", after := #[{ on := 49, ground := Ground.data }, { on := 51, ground := Ground.data }, { on := 42, ground := Ground.guard }], guard := some (42, true) }) (v := ?_) rfl (by kernel_rfl) (by kernel_rfl) (by kernel_rfl) (fun _ _ _ h => h) (Or.inl ⟨by rfl, ?_⟩) hHeld_14 ?_
                        rotate_left
                        · (intro w hSw; (try dsimp only at hSw); go_simp; try with_reducible rfl)
                        try simp only [Act.put, List.setIfInBounds_toArray, List.set_cons_zero, List.set_cons_succ]
                        refine wpAnyH_take (i := 53) (oi := { dst := some 246, op := Op.pick (Operand.tmp 235) (Operand.tmp 245) (Operand.const (Value.bool false)), type := 4, pos := "outright.go:119", after := #[{ on := 42, ground := Ground.data }, { on := 52, ground := Ground.data }, { on := 31, ground := Ground.guard }], guard := some (31, false) }) (v := ?_) rfl (by kernel_rfl) (by kernel_rfl) (by kernel_rfl) (fun _ _ _ h => h) (Or.inl ⟨by rfl, ?_⟩) hHeld_14 ?_
                        rotate_left
                        · (intro w hSw; (try dsimp only at hSw); go_simp; try with_reducible rfl)
                        try simp only [Act.put, List.setIfInBounds_toArray, List.set_cons_zero, List.set_cons_succ]
                        refine wpAnyH_take (i := 54) (oi := { dst := some 247, op := Op.pick (Operand.tmp 224) (Operand.const (Value.bool true)) (Operand.tmp 246), type := 4, pos := "outright.go:119", after := #[{ on := 31, ground := Ground.data }, { on := 53, ground := Ground.data }, { on := 20, ground := Ground.guard }], guard := some (20, true) }) (v := ?_) rfl (by kernel_rfl) (by kernel_rfl) (by kernel_rfl) (fun _ _ _ h => h) (Or.inl ⟨by rfl, ?_⟩) hHeld_14 ?_
                        rotate_left
                        · (intro w hSw; (try dsimp only at hSw); go_simp; try with_reducible rfl)
                        try simp only [Act.put, List.setIfInBounds_toArray, List.set_cons_zero, List.set_cons_succ]
                        refine wpAnyH_take (i := 55) (oi := { dst := some 248, op := Op.pick (Operand.tmp 213) (Operand.tmp 247) (Operand.const (Value.bool false)), type := 4, pos := "outright.go:119", after := #[{ on := 20, ground := Ground.data }, { on := 54, ground := Ground.data }, { on := 17, ground := Ground.guard }], guard := some (17, false) }) (v := ?_) rfl (by kernel_rfl) (by kernel_rfl) (by kernel_rfl) (fun _ _ _ h => h) (Or.inl ⟨by rfl, ?_⟩) hHeld_14 ?_
                        rotate_left
                        · (intro w hSw; (try dsimp only at hSw); go_simp; try with_reducible rfl)
                        try simp only [Act.put, List.setIfInBounds_toArray, List.set_cons_zero, List.set_cons_succ]
                        refine wpAnyH_take (i := 56) (oi := { dst := some 249, op := Op.pick (Operand.tmp 210) (Operand.const (Value.bool true)) (Operand.tmp 248), type := 4, pos := "outright.go:119", after := #[{ on := 17, ground := Ground.data }, { on := 55, ground := Ground.data }], guard := none }) (v := ?_) rfl (by kernel_rfl) (by kernel_rfl) (by kernel_rfl) (fun _ _ _ h => h) (Or.inl ⟨by rfl, ?_⟩) hHeld_14 ?_
                        rotate_left
                        · (intro w hSw; (try dsimp only at hSw); go_simp; try with_reducible rfl)
                        try simp only [Act.put, List.setIfInBounds_toArray, List.set_cons_zero, List.set_cons_succ]
                        refine wpAnyH_done (by kernel_rfl) ?_ _
                        go_wp2_with fail
                        go_meet
                        exact ⟨by first | rfl | simp, H0.out⟩
                      · have g3 : decide (q1 < r1) = false := by simp; omega
                        have g4 : ¬ q1 < r1 := by omega
                        have g5 : (r1 == q1) = false := by simpa using hrq
                        have g6 : decide (r1 = q1) = false := by simpa using hrq
                        clear LT
                        refine wp_region_held_drew (S := fun w' => w'.cell? ⟨Tb, 0, none⟩ = some (.int .i64 q1) ∧ w'.cell? ⟨Tb, 1, none⟩ = some (.int .i64 q2) ∧ w'.cell? ⟨S, 1, none⟩ = some (.slice (some ⟨gp, op, none⟩) np cp) ∧ w'.cell? ⟨gp, op + jp * 2, none⟩ = some (.int .i64 r1) ∧ w'.cell? ⟨gp, op + jp * 2 + 1, none⟩ = some (.int .i64 r2)) (by kernel_rfl) ?_ (fun hHeld => ?_)
                        · exact SF.out _ H0.out
                        refine wpAnyH_take (i := 0) (oi := { dst := some 193, op := Op.fieldAddr 64 (Operand.tmp 14) 0, type := 0, pos := "outright.go:119", after := #[], guard := none }) (v := ?_) rfl (by kernel_rfl) (by kernel_rfl) (by kernel_rfl) (fun _ _ _ h => h) (Or.inl ⟨by rfl, ?_⟩) hHeld ?_
                        rotate_left
                        · (intro w hSw; (try dsimp only at hSw); go_simp; try with_reducible rfl)
                        try simp only [Act.put, List.setIfInBounds_toArray, List.set_cons_zero, List.set_cons_succ]
                        refine wpAnyH_take (i := 1) (oi := { dst := some 194, op := Op.load 3 (Operand.tmp 193), type := 3, pos := "outright.go:119", after := #[{ on := 0, ground := Ground.data }], guard := none }) (v := ?_) rfl (by kernel_rfl) (by kernel_rfl) (by kernel_rfl) (fun _ _ _ h => h) (Or.inl ⟨by rfl, ?_⟩) hHeld ?_
                        rotate_left
                        · (intro w hSw; (try dsimp only at hSw); go_simp; try with_reducible rfl)
                        try simp only [Act.put, List.setIfInBounds_toArray, List.set_cons_zero, List.set_cons_succ]
                        refine wpAnyH_take (i := 2) (oi := { dst := some 195, op := Op.fieldAddr 64 (Operand.tmp 14) 1, type := 0, pos := "outright.go:119", after := #[], guard := none }) (v := ?_) rfl (by kernel_rfl) (by kernel_rfl) (by kernel_rfl) (fun _ _ _ h => h) (Or.inl ⟨by rfl, ?_⟩) hHeld ?_
                        rotate_left
                        · (intro w hSw; (try dsimp only at hSw); go_simp; try with_reducible rfl)
                        try simp only [Act.put, List.setIfInBounds_toArray, List.set_cons_zero, List.set_cons_succ]
                        refine wpAnyH_take (i := 3) (oi := { dst := some 196, op := Op.load 3 (Operand.tmp 195), type := 3, pos := "outright.go:119", after := #[{ on := 2, ground := Ground.data }], guard := none }) (v := ?_) rfl (by kernel_rfl) (by kernel_rfl) (by kernel_rfl) (fun _ _ _ h => h) (Or.inl ⟨by rfl, ?_⟩) hHeld ?_
                        rotate_left
                        · (intro w hSw; (try dsimp only at hSw); go_simp; try with_reducible rfl)
                        try simp only [Act.put, List.setIfInBounds_toArray, List.set_cons_zero, List.set_cons_succ]
                        refine wpAnyH_take (i := 4) (oi := { dst := some 197, op := Op.binOp BinOp.geq 3 (Operand.tmp 194) (Operand.tmp 196) 3, type := 4, pos := "outright.go:119", after := #[{ on := 1, ground := Ground.data }, { on := 3, ground := Ground.data }], guard := none }) (v := ?_) rfl (by kernel_rfl) (by kernel_rfl) (by kernel_rfl) (fun _ _ _ h => h) (Or.inl ⟨by rfl, ?_⟩) hHeld ?_
                        rotate_left
                        · (intro w hSw; (try dsimp only at hSw); go_simp; try with_reducible rfl)
                        try simp only [Act.put, List.setIfInBounds_toArray, List.set_cons_zero, List.set_cons_succ]
                        refine wpAnyH_take (i := 5) (oi := { dst := some 198, op := Op.move (Operand.tmp 197), type := 4, pos := "outright.go:119", after := #[{ on := 4, ground := Ground.data }], guard := none }) (v := ?_) rfl (by kernel_rfl) (by kernel_rfl) (by kernel_rfl) (fun _ _ _ h => h) (Or.inl ⟨by rfl, ?_⟩) hHeld ?_
                        rotate_left
                        · (intro w hSw; (try dsimp only at hSw); go_simp; try with_reducible rfl)
                        try simp only [Act.put, List.setIfInBounds_toArray, List.set_cons_zero, List.set_cons_succ]
                        refine wpAnyH_take (i := 6) (oi := { dst := some 199, op := Op.fieldAddr 64 (Operand.tmp 14) 0, type := 0, pos := "outright.go:119", after := #[{ on := 5, ground := Ground.guard }], guard := some (5, false) }) (v := ?_) rfl (by kernel_rfl) (by kernel_rfl) (by kernel_rfl) (fun _ _ _ h => h) (Or.inl ⟨by rfl, ?_⟩) hHeld ?_
                        rotate_left
                        · (intro w hSw; (try dsimp only at hSw); go_simp; try with_reducible rfl)
                        try simp only [Act.put, List.setIfInBounds_toArray, List.set_cons_zero, List.set_cons_succ]
                        refine wpAnyH_take (i := 7) (oi := { dst := some 200, op := Op.load 3 (Operand.tmp 199), type := 3, pos := "outright.go:119", after := #[{ on := 6, ground := Ground.data }, { on := 5, ground := Ground.guard }], guard := some (5, false) }) (v := ?_) rfl (by kernel_rfl) (by kernel_rfl) (by kernel_rfl) (fun _ _ _ h => h) (Or.inl ⟨by rfl, ?_⟩) hHeld ?_
                        rotate_left
                        · (intro w hSw; (try dsimp only at hSw); go_simp; try with_reducible rfl)
                        try simp only [Act.put, List.setIfInBounds_toArray, List.set_cons_zero, List.set_cons_succ]
                        refine wpAnyH_ready (rs := [8]) (by kernel_rfl) (by simp) ?_
                        refine AllReadyH.cons (o := { dst := some 201, op := Op.call { callee := Callee.value (Operand.func 10), args := #[Operand.tmp 200], argTypes := #[3] }, type := 4, pos := "outright.go:119", after := #[{ on := 7, ground := Ground.data }, { on := 5, ground := Ground.chain }, { on := 5, ground := Ground.guard }], guard := some (5, false) }) rfl (fun K hK => ?_) AllReadyH.nil
                        go_simp
                        go_at_call 10
                        refine Calls.mono (V1.out _) ?_
                        rintro e wz ⟨rfl, hwz⟩
                        subst wz
                        try go_wp2_with fail
                        refine hK.out _ _ ?_ (fun hHeld_8 => ?_)
                        · exact SF.out _ H0.out
                        clear hK K
                        try simp only [Act.put, List.setIfInBounds_toArray, List.set_cons_zero, List.set_cons_succ]
                        refine wpAnyH_take (i := 9) (oi := { dst := some 202, op := Op.unOp UnOp.not 4 (Operand.tmp 201), type := 4, pos := "outright.go:119", after := #[{ on := 8, ground := Ground.data }, { on := 5, ground := Ground.guard }], guard := some (5, false) }) (v := ?_) rfl (by kernel_rfl) (by kernel_rfl) (by kernel_rfl) (fun _ _ _ h => h) (Or.inl ⟨by rfl, ?_⟩) hHeld_8 ?_
                        rotate_left
                        · (intro w hSw; (try dsimp only at hSw); go_simp; try with_reducible rfl)
                        try simp only [Act.put, List.setIfInBounds_toArray, List.set_cons_zero, List.set_cons_succ]
                        refine wpAnyH_take (i := 10) (oi := { dst := some 203, op := Op.pick (Operand.tmp 198) (Operand.const (Value.bool true)) (Operand.tmp 202), type := 4, pos := "outright.go:119", after := #[{ on := 5, ground := Ground.data }, { on := 9, ground := Ground.data }], guard := none }) (v := ?_) rfl (by kernel_rfl) (by kernel_rfl) (by kernel_rfl) (fun _ _ _ h => h) (Or.inl ⟨by rfl, ?_⟩) hHeld_8 ?_
                        rotate_left
                        · (intro w hSw; (try dsimp only at hSw); go_simp; try with_reducible rfl)
                        try simp only [Act.put, List.setIfInBounds_toArray, List.set_cons_zero, List.set_cons_succ]
                        refine wpAnyH_take (i := 11) (oi := { dst := some 204, op := Op.move (Operand.tmp 203), type := 4, pos := "outright.go:119", after := #[{ on := 10, ground := Ground.data }, { on := 8, ground := Ground.chain }], guard := none }) (v := ?_) rfl (by kernel_rfl) (by kernel_rfl) (by kernel_rfl) (fun _ _ _ h => h) (Or.inl ⟨by rfl, ?_⟩) hHeld_8 ?_
                        rotate_left
                        · (intro w hSw; (try dsimp only at hSw); go_simp; try with_reducible rfl)
                        try simp only [Act.put, List.setIfInBounds_toArray, List.set_cons_zero, List.set_cons_succ]
                        refine wpAnyH_take (i := 12) (oi := { dst := some 205, op := Op.fieldAddr 64 (Operand.tmp 14) 1, type := 0, pos := "outright.go:119", after := #[{ on := 11, ground := Ground.guard }], guard := some (11, false) }) (v := ?_) rfl (by kernel_rfl) (by kernel_rfl) (by kernel_rfl) (fun _ _ _ h => h) (Or.inl ⟨by rfl, ?_⟩) hHeld_8 ?_
                        rotate_left
                        · (intro w hSw; (try dsimp only at hSw); go_simp; try with_reducible rfl)
                        try simp only [Act.put, List.setIfInBounds_toArray, List.set_cons_zero, List.set_cons_succ]
                        refine wpAnyH_take (i := 13) (oi := { dst := some 206, op := Op.load 3 (Operand.tmp 205), type := 3, pos := "outright.go:119", after := #[{ on := 12, ground := Ground.data }, { on := 11, ground := Ground.guard }], guard := some (11, false) }) (v := ?_) rfl (by kernel_rfl) (by kernel_rfl) (by kernel_rfl) (fun _ _ _ h => h) (Or.inl ⟨by rfl, ?_⟩) hHeld_8 ?_
                        rotate_left
                        · (intro w hSw; (try dsimp only at hSw); go_simp; try with_reducible rfl)
                        try simp only [Act.put, List.setIfInBounds_toArray, List.set_cons_zero, List.set_cons_succ]
                        refine wpAnyH_ready (rs := [14]) (by kernel_rfl) (by simp) ?_
                        refine AllReadyH.cons (o := { dst := some 207, op := Op.call { callee := Callee.value (Operand.func 10), args := #[Operand.tmp 206], argTypes := #[3] }, type := 4, pos := "outright.go:119", after := #[{ on := 13, ground := Ground.data }, { on := 11, ground := Ground.chain }, { on := 11, ground := Ground.guard }], guard := some (11, false) }) rfl (fun K hK => ?_) AllReadyH.nil
                        go_simp
                        go_at_call 10
                        refine Calls.mono (V2.out _) ?_
                        rintro e wz ⟨rfl, hwz⟩
                        subst wz
                        try go_wp2_with fail
                        refine hK.out _ _ ?_ (fun hHeld_14 => ?_)
                        · exact SF.out _ H0.out
                        clear hK K
                        try simp only [Act.put, List.setIfInBounds_toArray, List.set_cons_zero, List.set_cons_succ]
                        refine wpAnyH_take (i := 15) (oi := { dst := some 208, op := Op.unOp UnOp.not 4 (Operand.tmp 207), type := 4, pos := "outright.go:119", after := #[{ on := 14, ground := Ground.data }, { on := 11, ground := Ground.guard }], guard := some (11, false) }) (v := ?_) rfl (by kernel_rfl) (by kernel_rfl) (by kernel_rfl) (fun _ _ _ h => h) (Or.inl ⟨by rfl, ?_⟩) hHeld_14 ?_
                        rotate_left
                        · (intro w hSw; (try dsimp only at hSw); go_simp; try with_reducible rfl)
                        try simp only [Act.put, List.setIfInBounds_toArray, List.set_cons_zero, List.set_cons_succ]
                        refine wpAnyH_take (i := 16) (oi := { dst := some 209, op := Op.pick (Operand.tmp 204) (Operand.const (Value.bool true)) (Operand.tmp 208), type := 4, pos := "outright.go:119", after := #[{ on := 11, ground := Ground.data }, { on := 15, ground := Ground.data }], guard := none }) (v := ?_) rfl (by kernel_rfl) (by kernel_rfl) (by kernel_rfl) (fun _ _ _ h => h) (Or.inl ⟨by rfl, ?_⟩) hHeld_14 ?_
                        rotate_left
                        · (intro w hSw; (try dsimp only at hSw); go_simp; try with_reducible rfl)
                        try simp only [Act.put, List.setIfInBounds_toArray, List.set_cons_zero, List.set_cons_succ]
                        refine wpAnyH_take (i := 17) (oi := { dst := some 210, op := Op.move (Operand.tmp 209), type := 4, pos := "outright.go:119", after := #[{ on := 16, ground := Ground.data }, { on := 14, ground := Ground.chain }], guard := none }) (v := ?_) rfl (by kernel_rfl) (by kernel_rfl) (by kernel_rfl) (fun _ _ _ h => h) (Or.inl ⟨by rfl, ?_⟩) hHeld_14 ?_
                        rotate_left
                        · (intro w hSw; (try dsimp only at hSw); go_simp; try with_reducible rfl)
                        try simp only [Act.put, List.setIfInBounds_toArray, List.set_cons_zero, List.set_cons_succ]
                        refine wpAnyH_take (i := 18) (oi := { dst := some 211, op := Op.move (Operand.tmp 13), type := 3, pos := "outright.go:119", after := #[{ on := 17, ground := Ground.guard }], guard := some (17, false) }) (v := ?_) rfl (by kernel_rfl) (by kernel_rfl) (by kernel_rfl) (fun _ _ _ h => h) (Or.inl ⟨by rfl, ?_⟩) hHeld_14 ?_
                        rotate_left
                        · (intro w hSw; (try dsimp only at hSw); go_simp; try with_reducible rfl)
                        try simp only [Act.put, List.setIfInBounds_toArray, List.set_cons_zero, List.set_cons_succ]
                        refine wpAnyH_take (i := 19) (oi := { dst := some 212, op := Op.binOp BinOp.gtr 3 (Operand.tmp 211) (Operand.const (Value.int IntKind.i64 0)) 3, type := 4, pos := "outright.go:119", after := #[{ on := 18, ground := Ground.data }, { on := 17, ground := Ground.guard }], guard := some (17, false) }) (v := ?_) rfl (by kernel_rfl) (by kernel_rfl) (by kernel_rfl) (fun _ _ _ h => h) (Or.inl ⟨by rfl, ?_⟩) hHeld_14 ?_
                        rotate_left
                        · (intro w hSw; (try dsimp only at hSw); go_simp; try with_reducible rfl)
                        try simp only [Act.put, List.setIfInBounds_toArray, List.set_cons_zero, List.set_cons_succ]
                        refine wpAnyH_take (i := 20) (oi := { dst := some 213, op := Op.move (Operand.tmp 212), type := 4, pos := "outright.go:119", after := #[{ on := 19, ground := Ground.data }, { on := 17, ground := Ground.chain }, { on := 17, ground := Ground.guard }], guard := some (17, false) }) (v := ?_) rfl (by kernel_rfl) (by kernel_rfl) (by kernel_rfl) (fun _ _ _ h => h) (Or.inl ⟨by rfl, ?_⟩) hHeld_14 ?_
                        rotate_left
                        · (intro w hSw; (try dsimp only at hSw); go_simp; try with_reducible rfl)
                        try simp only [Act.put, List.setIfInBounds_toArray, List.set_cons_zero, List.set_cons_succ]
                        refine wpAnyH_take (i := 21) (oi := { dst := some 214, op := Op.fieldAddr 37 (Operand.tmp 5) 1, type := 0, pos := "outright.go:119", after := #[{ on := 20, ground := Ground.guard }], guard := some (20, true) }) (v := ?_) rfl (by kernel_rfl) (by kernel_rfl) (by kernel_rfl) (fun _ _ _ h => h) (Or.inl ⟨by rfl, ?_⟩) hHeld_14 ?_
                        rotate_left
                        · (intro w hSw; (try dsimp only at hSw); go_simp; try with_reducible rfl)
                        try simp only [Act.put, List.setIfInBounds_toArray, List.set_cons_zero, List.set_cons_succ]
                        refine wpAnyH_take (i := 22) (oi := { dst := some 215, op := Op.load 35 (Operand.tmp 214), type := 35, pos := "outright.go:119", after := #[{ on := 21, ground := Ground.data }, { on := 20, ground := Ground.guard }], guard := some (20, true) }) (v := ?_) rfl (by kernel_rfl) (by kernel_rfl) (by kernel_rfl) (fun _ _ _ h => h) (Or.inl ⟨by rfl, ?_⟩) hHeld_14 ?_
                        rotate_left
                        · (intro w hSw; (try dsimp only at hSw); go_simp; try with_reducible rfl)
                        try simp only [Act.put, List.setIfInBounds_toArray, List.set_cons_zero, List.set_cons_succ]
                        refine wpAnyH_take (i := 23) (oi := { dst := some 216, op := Op.move (Operand.tmp 13), type := 3, pos := "outright.go:119", after := #[{ on := 20, ground := Ground.guard }], guard := some (20, true) }) (v := ?_) rfl (by kernel_rfl) (by kernel_rfl) (by kernel_rfl) (fun _ _ _ h => h) (Or.inl ⟨by rfl, ?_⟩) hHeld_14 ?_
                        rotate_left
                        · (intro w hSw; (try dsimp only at hSw); go_simp; try with_reducible rfl)
                        try simp only [Act.put, List.setIfInBounds_toArray, List.set_cons_zero, List.set_cons_succ]
                        refine wpAnyH_take (i := 24) (oi := { dst := some 217, op := Op.binOp BinOp.sub 3 (Operand.tmp 216) (Operand.const (Value.int IntKind.i64 1)) 3, type := 3, pos := "outright.go:119", after := #[{ on := 23, ground := Ground.data }, { on := 20, ground := Ground.guard }], guard := some (20, true) }) (v := ?_) rfl (by kernel_rfl) (by kernel_rfl) (by kernel_rfl) (fun _ _ _ h => h) (Or.inl ⟨by rfl, ?_⟩) hHeld_14 ?_
                        rotate_left
                        · (intro w hSw; (try dsimp only at hSw); go_simp; try with_reducible rfl)
                        try simp only [Act.put, List.setIfInBounds_toArray, List.set_cons_zero, List.set_cons_succ]
                        refine wpAnyH_take (i := 25) (oi := { dst := some 218, op := Op.indexAddr 35 (Operand.tmp 215) (Operand.tmp 217), type := 0, pos := "outright.go:119", after := #[{ on := 22, ground := Ground.data }, { on := 24, ground := Ground.data }, { on := 20, ground := Ground.guard }], guard := some (20, true) }) (v := ?_) rfl (by kernel_rfl) (by kernel_rfl) (by kernel_rfl) (fun _ _ _ h => h) (Or.inl ⟨by rfl, ?_⟩) hHeld_14 ?_
                        rotate_left
                        · (intro w hSw; (try dsimp only at hSw); go_simp; try with_reducible rfl)
                        try simp only [Act.put, List.setIfInBounds_toArray, List.set_cons_zero, List.set_cons_succ]
                        refine wpAnyH_take (i := 26) (oi := { dst := some 219, op := Op.fieldAddr 64 (Operand.tmp 218) 0, type := 0, pos := "outright.go:119", after := #[{ on := 25, ground := Ground.data }, { on := 20, ground := Ground.guard }], guard := some (20, true) }) (v := ?_) rfl (by kernel_rfl) (by kernel_rfl) (by kernel_rfl) (fun _ _ _ h => h) (Or.inl ⟨by rfl, ?_⟩) hHeld_14 ?_
                        rotate_left
                        · (intro w hSw; (try dsimp only at hSw); go_simp; try with_reducible rfl)
                        try simp only [Act.put, List.setIfInBounds_toArray, List.set_cons_zero, List.set_cons_succ]
                        refine wpAnyH_take (i := 27) (oi := { dst := some 220, op := Op.load 3 (Operand.tmp 219), type := 3, pos := "outright.go:119", after := #[{ on := 26, ground := Ground.data }, { on := 20, ground := Ground.guard }], guard := some (20, true) }) (v := ?_) rfl (by kernel_rfl) (by kernel_rfl) (by kernel_rfl) (fun _ _ _ h => h) (Or.inl ⟨by rfl, ?_⟩) hHeld_14 ?_
                        rotate_left
                        · (intro w hSw; (try dsimp only at hSw); go_simp; try with_reducible rfl)
                        try simp only [Act.put, List.setIfInBounds_toArray, List.set_cons_zero, List.set_cons_succ]
                        refine wpAnyH_take (i := 28) (oi := { dst := some 221, op := Op.fieldAddr 64 (Operand.tmp 14) 0, type := 0, pos := "outright.go:119", after := #[{ on := 20, ground := Ground.guard }], guard := some (20, true) }) (v := ?_) rfl (by kernel_rfl) (by kernel_rfl) (by kernel_rfl) (fun _ _ _ h => h) (Or.inl ⟨by rfl, ?_⟩) hHeld_14 ?_
                        rotate_left
                        · (intro w hSw; (try dsimp only at hSw); go_simp; try with_reducible rfl)
                        try simp only [Act.put, List.setIfInBounds_toArray, List.set_cons_zero, List.set_cons_succ]
                        refine wpAnyH_take (i := 29) (oi := { dst := some 222, op := Op.load 3 (Operand.tmp 221), type := 3, pos := "outright.go:119", after := #[{ on := 28, ground := Ground.data }, { on := 20, ground := Ground.guard }], guard := some (20, true) }) (v := ?_) rfl (by kernel_rfl) (by kernel_rfl) (by kernel_rfl) (fun _ _ _ h => h) (Or.inl ⟨by rfl, ?_⟩) hHeld_14 ?_
                        rotate_left
                        · (intro w hSw; (try dsimp only at hSw); go_simp; try with_reducible rfl)
                        try simp only [Act.put, List.setIfInBounds_toArray, List.set_cons_zero, List.set_cons_succ]
                        refine wpAnyH_take (i := 30) (oi := { dst := some 223, op := Op.binOp BinOp.gtr 3 (Operand.tmp 220) (Operand.tmp 222) 3, type := 4, pos := "outright.go:119", after := #[{ on := 27, ground := Ground.data }, { on := 29, ground := Ground.data }, { on := 20, ground := Ground.guard }], guard := some (20, true) }) (v := ?_) rfl (by kernel_rfl) (by kernel_rfl) (by kernel_rfl) (fun _ _ _ h => h) (Or.inl ⟨by rfl, ?_⟩) hHeld_14 ?_
                        rotate_left
                        · (intro w hSw; (try dsimp only at hSw); go_simp; try with_reducible rfl)
                        try simp only [Act.put, List.setIfInBounds_toArray, List.set_cons_zero, List.set_cons_succ]
                        refine wpAnyH_take (i := 31) (oi := { dst := some 224, op := Op.move (Operand.tmp 223), type := 4, pos := "outright.go:119", after := #[{ on := 30, ground := Ground.data }, { on := 20, ground := Ground.chain }, { on := 20, ground := Ground.guard }], guard := some (20, true) }) (v := ?_) rfl (by kernel_rfl) (by kernel_rfl) (by kernel_rfl) (fun _ _ _ h => h) (Or.inl ⟨by rfl, ?_⟩) hHeld_14 ?_
                        rotate_left
                        · (intro w hSw; (try dsimp only at hSw); go_simp; try with_reducible rfl)
                        try simp only [Act.put, List.setIfInBounds_toArray, List.set_cons_zero, List.set_cons_succ]
                        refine wpAnyH_take (i := 32) (oi := { dst := some 225, op := Op.fieldAddr 37 (Operand.tmp 5) 1, type := 0, pos := "outright.go:119", after := #[{ on := 31, ground := Ground.guard }], guard := some (31, false) }) (v := ?_) rfl (by kernel_rfl) (by kernel_rfl) (by kernel_rfl) (fun _ _ _ h => h) (Or.inl ⟨by rfl, ?_⟩) hHeld_14 ?_
                        rotate_left
                        · (intro w hSw; (try dsimp only at hSw); go_simp; try with_reducible rfl)
                        try simp only [Act.put, List.setIfInBounds_toArray, List.set_cons_zero, List.set_cons_succ]
                        refine wpAnyH_take (i := 33) (oi := { dst := some 226, op := Op.load 35 (Operand.tmp 225), type := 35, pos := "outright.go:119", after := #[{ on := 32, ground := Ground.data }, { on := 31, ground := Ground.guard }], guard := some (31, false) }) (v := ?_) rfl (by kernel_rfl) (by kernel_rfl) (by kernel_rfl) (fun _ _ _ h => h) (Or.inl ⟨by rfl, ?_⟩) hHeld_14 ?_
                        rotate_left
                        · (intro w hSw; (try dsimp only at hSw); go_simp; try with_reducible rfl)
                        try simp only [Act.put, List.setIfInBounds_toArray, List.set_cons_zero, List.set_cons_succ]
                        refine wpAnyH_take (i := 34) (oi := { dst := some 227, op := Op.move (Operand.tmp 13), type := 3, pos := "outright.go:119", after := #[{ on := 31, ground := Ground.guard }], guard := some (31, false) }) (v := ?_) rfl (by kernel_rfl) (by kernel_rfl) (by kernel_rfl) (fun _ _ _ h => h) (Or.inl ⟨by rfl, ?_⟩) hHeld_14 ?_
                        rotate_left
                        · (intro w hSw; (try dsimp only at hSw); go_simp; try with_reducible rfl)
                        try simp only [Act.put, List.setIfInBounds_toArray, List.set_cons_zero, List.set_cons_succ]
                        refine wpAnyH_take (i := 35) (oi := { dst := some 228, op := Op.binOp BinOp.sub 3 (Operand.tmp 227) (Operand.const (Value.int IntKind.i64 1)) 3, type := 3, pos := "outright.go:119", after := #[{ on := 34, ground := Ground.data }, { on := 31, ground := Ground.guard }], guard := some (31, false) }) (v := ?_) rfl (by kernel_rfl) (by kernel_rfl) (by kernel_rfl) (fun _ _ _ h => h) (Or.inl ⟨by rfl, ?_⟩) hHeld_14 ?_
                        rotate_left
                        · (intro w hSw; (try dsimp only at hSw); go_simp; try with_reducible rfl)
                        try simp only [Act.put, List.setIfInBounds_toArray, List.set_cons_zero, List.set_cons_succ]
                        refine wpAnyH_take (i := 36) (oi := { dst := some 229, op := Op.indexAddr 35 (Operand.tmp 226) (Operand.tmp 228), type := 0, pos := "outright.go:119", after := #[{ on := 33, ground := Ground.data }, { on := 35, ground := Ground.data }, { on := 31, ground := Ground.guard }], guard := some (31, false) }) (v := ?_) rfl (by kernel_rfl) (by kernel_rfl) (by kernel_rfl) (fun _ _ _ h => h) (Or.inl ⟨by rfl, ?_⟩) hHeld_14 ?_
                        rotate_left
                        · (intro w hSw; (try dsimp only at hSw); go_simp; try with_reducible rfl)
                        try simp only [Act.put, List.setIfInBounds_toArray, List.set_cons_zero, List.set_cons_succ]
                        refine wpAnyH_take (i := 37) (oi := { dst := some 230, op := Op.fieldAddr 64 (Operand.tmp 229) 0, type := 0, pos := "outright.go:119", after := #[{ on := 36, ground := Ground.data }, { on := 31, ground := Ground.guard }], guard := some (31, false) }) (v := ?_) rfl (by kernel_rfl) (by kernel_rfl) (by kernel_rfl) (fun _ _ _ h => h) (Or.inl ⟨by rfl, ?_⟩) hHeld_14 ?_
                        rotate_left
                        · (intro w hSw; (try dsimp only at hSw); go_simp; try with_reducible rfl)
                        try simp only [Act.put, List.setIfInBounds_toArray, List.set_cons_zero, List.set_cons_succ]
                        refine wpAnyH_take (i := 38) (oi := { dst := some 231, op := Op.load 3 (Operand.tmp 230), type := 3, pos := "outright.go:119", after := #[{ on := 37, ground := Ground.data }, { on := 31, ground := Ground.guard }], guard := some (31, false) }) (v := ?_) rfl (by kernel_rfl) (by kernel_rfl) (by kernel_rfl) (fun _ _ _ h => h) (Or.inl ⟨by rfl, ?_⟩) hHeld_14 ?_
                        rotate_left
                        · (intro w hSw; (try dsimp only at hSw); go_simp; try with_reducible rfl)
                        try simp only [Act.put, List.setIfInBounds_toArray, List.set_cons_zero, List.set_cons_succ]
                        refine wpAnyH_take (i := 39) (oi := { dst := some 232, op := Op.fieldAddr 64 (Operand.tmp 14) 0, type := 0, pos := "outright.go:119", after := #[{ on := 31, ground := Ground.guard }], guard := some (31, false) }) (v := ?_) rfl (by kernel_rfl) (by kernel_rfl) (by kernel_rfl) (fun _ _ _ h => h) (Or.inl ⟨by rfl, ?_⟩) hHeld_14 ?_
                        rotate_left
                        · (intro w hSw; (try dsimp only at hSw); go_simp; try with_reducible rfl)
                        try simp only [Act.put, List.setIfInBounds_toArray, List.set_cons_zero, List.set_cons_succ]
                        refine wpAnyH_take (i := 40) (oi := { dst := some 233, op := Op.load 3 (Operand.tmp 232), type := 3, pos := "outright.go:119", after := #[{ on := 39, ground := Ground.data }, { on := 31, ground := Ground.guard }], guard := some (31, false) }) (v := ?_) rfl (by kernel_rfl) (by kernel_rfl) (by kernel_rfl) (fun _ _ _ h => h) (Or.inl ⟨by rfl, ?_⟩) hHeld_14 ?_
                        rotate_left
                        · (intro w hSw; (try dsimp only at hSw); go_simp; try with_reducible rfl)
                        try simp only [Act.put, List.setIfInBounds_toArray, List.set_cons_zero, List.set_cons_succ]
                        refine wpAnyH_take (i := 41) (oi := { dst := some 234, op := Op.binOp BinOp.eql 3 (Operand.tmp 231) (Operand.tmp 233) 3, type := 4, pos := "outright.go:119", after := #[{ on := 38, ground := Ground.data }, { on := 40, ground := Ground.data }, { on := 31, ground := Ground.guard }], guard := some (31, false) }) (v := ?_) rfl (by kernel_rfl) (by kernel_rfl) (by kernel_rfl) (fun _ _ _ h => h) (Or.inl ⟨by rfl, ?_⟩) hHeld_14 ?_
                        rotate_left
                        · (intro w hSw; (try dsimp only at hSw); go_simp; try with_reducible rfl)
                        try simp only [Act.put, List.setIfInBounds_toArray, List.set_cons_zero, List.set_cons_succ]
                        refine wpAnyH_take (i := 42) (oi := { dst := some 235, op := Op.move (Operand.tmp 234), type := 4, pos := "outright.go:119", after := #[{ on := 41, ground := Ground.data }, { on := 31, ground := Ground.chain }, { on := 31, ground := Ground.guard }], guard := some (31, false) }) (v := ?_) rfl (by kernel_rfl) (by kernel_rfl) (by kernel_rfl) (fun _ _ _ h => h) (Or.inl ⟨by rfl, ?_⟩) hHeld_14 ?_
                        rotate_left
                        · (intro w hSw; (try dsimp only at hSw); go_simp; try with_reducible rfl)
                        try simp only [Act.put, List.setIfInBounds_toArray, List.set_cons_zero, List.set_cons_succ]
                        refine wpAnyH_take (i := 43) (oi := { dst := some 236, op := Op.fieldAddr 37 (Operand.tmp 5) 1, type := 0, pos := "outright.go:119", after := #[{ on := 42, ground := Ground.guard }], guard := some (42, true) }) (v := undef) rfl (by kernel_rfl) (by kernel_rfl) (by kernel_rfl) (fun _ _ _ h => h) (Or.inr ⟨by rfl, rfl⟩) hHeld_14 ?_
                        try simp only [Act.put, List.setIfInBounds_toArray, List.set_cons_zero, List.set_cons_succ]
                        refine wpAnyH_take (i := 44) (oi := { dst := some 237, op := Op.load 35 (Operand.tmp 236), type := 35, pos := "outright.go:119", after := #[{ on := 43, ground := Ground.data }, { on := 42, ground := Ground.guard }], guard := some (42, true) }) (v := undef) rfl (by kernel_rfl) (by kernel_rfl) (by kernel_rfl) (fun _ _ _ h => h) (Or.inr ⟨by rfl, rfl⟩) hHeld_14 ?_
                        try simp only [Act.put, List.setIfInBounds_toArray, List.set_cons_zero, List.set_cons_succ]
                        refine wpAnyH_take (i := 45) (oi := { dst := some 238, op := Op.move (Operand.tmp 13), type := 3, pos := "outright.go:119", after := #[{ on := 42, ground := Ground.guard }], guard := some (42, true) }) (v := undef) rfl (by kernel_rfl) (by kernel_rfl) (by kernel_rfl) (fun _ _ _ h => h) (Or.inr ⟨by rfl, rfl⟩) hHeld_14 ?_
                        try simp only [Act.put, List.setIfInBounds_toArray, List.set_cons_zero, List.set_cons_succ]
                        refine wpAnyH_take (i := 46) (oi := { dst := some 239, op := Op.binOp BinOp.sub 3 (Operand.tmp 238) (Operand.const (Value.int IntKind.i64 1)) 3, type := 3, pos := "outright.go:119", after := #[{ on := 45, ground := Ground.data }, { on := 42, ground := Ground.guard }], guard := some (42, true) }) (v := undef) rfl (by kernel_rfl) (by kernel_rfl) (by kernel_rfl) (fun _ _ _ h => h) (Or.inr ⟨by rfl, rfl⟩) hHeld_14 ?_
                        try simp only [Act.put, List.setIfInBounds_toArray, List.set_cons_zero, List.set_cons_succ]
                        refine wpAnyH_take (i := 47) (oi := { dst := some 240, op := Op.indexAddr 35 (Operand.tmp 237) (Operand.tmp 239), type := 0, pos := "outright.go:119", after := #[{ on := 44, ground := Ground.data }, { on := 46, ground := Ground.data }, { on := 42, ground := Ground.guard }], guard := some (42, true) }) (v := undef) rfl (by kernel_rfl) (by kernel_rfl) (by kernel_rfl) (fun _ _ _ h => h) (Or.inr ⟨by rfl, rfl⟩) hHeld_14 ?_
                        try simp only [Act.put, List.setIfInBounds_toArray, List.set_cons_zero, List.set_cons_succ]
                        refine wpAnyH_take (i := 48) (oi := { dst := some 241, op := Op.fieldAddr 64 (Operand.tmp 240) 1, type := 0, pos := "outright.go:119", after := #[{ on := 47, ground := Ground.data }, { on := 42, ground := Ground.guard }], guard := some (42, true) }) (v := undef) rfl (by kernel_rfl) (by kernel_rfl) (by kernel_rfl) (fun _ _ _ h => h) (Or.inr ⟨by rfl, rfl⟩) hHeld_14 ?_
                        try simp only [Act.put, List.setIfInBounds_toArray, List.set_cons_zero, List.set_cons_succ]
                        refine wpAnyH_take (i := 49) (oi := { dst := some 242, op := Op.load 3 (Operand.tmp 241), type := 3, pos := "outright.go:119", after := #[{ on := 48, ground := Ground.data }, { on := 42, ground := Ground.guard }], guard := some (42, true) }) (v := undef) rfl (by kernel_rfl) (by kernel_rfl) (by kernel_rfl) (fun _ _ _ h => h) (Or.inr ⟨by rfl, rfl⟩) hHeld_14 ?_
                        try simp only [Act.put, List.setIfInBounds_toArray, List.set_cons_zero, List.set_cons_succ]
                        refine wpAnyH_take (i := 50) (oi := { dst := some 243, op := Op.fieldAddr 64 (Operand.tmp 14) 1, type := 0, pos := "outright.go:119", after := #[{ on := 42, ground := Ground.guard }], guard := some (42, true) }) (v := undef) rfl (by kernel_rfl) (by kernel_rfl) (by kernel_rfl) (fun _ _ _ h => h) (Or.inr ⟨by rfl, rfl⟩) hHeld_14 ?_
                        try simp only [Act.put, List.setIfInBounds_toArray, List.set_cons_zero, List.set_cons_succ]
                        refine wpAnyH_take (i := 51) (oi := { dst := some 244, op := Op.load 3 (Operand.tmp 243), type := 3, pos := "outright.go:119", after := #[{ on := 50, ground := Ground.data }, { on := 42, ground := Ground.guard }], guard := some (42, true) }) (v := undef) rfl (by kernel_rfl) (by kernel_rfl) (by kernel_rfl) (fun _ _ _ h => h) (Or.inr ⟨by rfl, rfl⟩) hHeld_14 ?_
                        try simp only [Act.put, List.setIfInBounds_toArray, List.set_cons_zero, List.set_cons_succ]
                        refine wpAnyH_take (i := 52) (oi := { dst := some 245, op := Op.binOp BinOp.geq 3 (Operand.tmp 242) (Operand.tmp 244) 3, type := 4, pos := "outright.go:119", after := #[{ on := 49, ground := Ground.data }, { on := 51, ground := Ground.data }, { on := 42, ground := Ground.guard }], guard := some (42, true) }) (v := undef) rfl (by kernel_rfl) (by kernel_rfl) (by kernel_rfl) (fun _ _ _ h => h) (Or.inr ⟨by rfl, rfl⟩) hHeld_14 ?_
                        try simp only [Act.put, List.setIfInBounds_toArray, List.set_cons_zero, List.set_cons_succ]
                        refine wpAnyH_take (i := 53) (oi := { dst := some 246, op := Op.pick (Operand.tmp 235) (Operand.tmp 245) (Operand.const (Value.bool false)), type := 4, pos := "outright.go:119", after := #[{ on := 42, ground := Ground.data }, { on := 52, ground := Ground.data }, { on := 31, ground := Ground.guard }], guard := some (31, false) }) (v := ?_) rfl (by kernel_rfl) (by kernel_rfl) (by kernel_rfl) (fun _ _ _ h => h) (Or.inl ⟨by rfl, ?_⟩) hHeld_14 ?_
                        rotate_left
                        · (intro w hSw; (try dsimp only at hSw); go_simp; try with_reducible rfl)
                        try simp only [Act.put, List.setIfInBounds_toArray, List.set_cons_zero, List.set_cons_succ]
                        refine wpAnyH_take (i := 54) (oi := { dst := some 247, op := Op.pick (Operand.tmp 224) (Operand.const (Value.bool true)) (Operand.tmp 246), type := 4, pos := "outright.go:119", after := #[{ on := 31, ground := Ground.data }, { on := 53, ground := Ground.data }, { on := 20, ground := Ground.guard }], guard := some (20, true) }) (v := ?_) rfl (by kernel_rfl) (by kernel_rfl) (by kernel_rfl) (fun _ _ _ h => h) (Or.inl ⟨by rfl, ?_⟩) hHeld_14 ?_
                        rotate_left
                        · (intro w hSw; (try dsimp only at hSw); go_simp; try with_reducible rfl)
                        try simp only [Act.put, List.setIfInBounds_toArray, List.set_cons_zero, List.set_cons_succ]
                        refine wpAnyH_take (i := 55) (oi := { dst := some 248, op := Op.pick (Operand.tmp 213) (Operand.tmp 247) (Operand.const (Value.bool false)), type := 4, pos := "outright.go:119", after := #[{ on := 20, ground := Ground.data }, { on := 54, ground := Ground.data }, { on := 17, ground := Ground.guard }], guard := some (17, false) }) (v := ?_) rfl (by kernel_rfl) (by kernel_rfl) (by kernel_rfl) (fun _ _ _ h => h) (Or.inl ⟨by rfl, ?_⟩) hHeld_14 ?_
                        rotate_left
                        · (intro w hSw; (try dsimp only at hSw); go_simp; try with_reducible rfl)
                        try simp only [Act.put, List.setIfInBounds_toArray, List.set_cons_zero, List.set_cons_succ]
                        refine wpAnyH_take (i := 56) (oi := { dst := some 249, op := Op.pick (Operand.tmp 210) (Operand.const (Value.bool true)) (Operand.tmp 248), type := 4, pos := "outright.go:119", after := #[{ on := 17, ground := Ground.data }, { on := 55, ground := Ground.data }], guard := none }) (v := ?_) rfl (by kernel_rfl) (by kernel_rfl) (by kernel_rfl) (fun _ _ _ h => h) (Or.inl ⟨by rfl, ?_⟩) hHeld_14 ?_
                        rotate_left
                        · (intro w hSw; (try dsimp only at hSw); go_simp; try with_reducible rfl)
                        try simp only [Act.put, List.setIfInBounds_toArray, List.set_cons_zero, List.set_cons_succ]
                        refine wpAnyH_done (by kernel_rfl) ?_ _
                        go_wp2_with fail
                        go_meet
                        exact ⟨by first | rfl | simp, H0.out⟩
                  case rest => as_aux_lemma =>
                    obtain ⟨rfl, hbc⟩ := hcut
                    have BW : Hid (Below w7.heap.size w7 wc) := HBA.out.trans (hbc.out.mono HBA.out.size)
                    clear hbc KC PV V1 V2 HV3 H0
                    go_wp2
                    refine ⟨⟨j + 1, by omega, by go_num, ?_⟩, by simp [intOf]; omega⟩
                    exact BW.out
                · have n3 : ¬ (j : Int) < (np : Int) := by omega
                  have RE : Hid (RoundN w wr P (i + 1) l1) := R7.out.under hB.out
                  clear hB
                  go_wp2
                  exact ⟨⟨i + 1, by omega, by go_num, l1, RE.out⟩, by simp [intOf]; omega⟩
    · have n1 : ¬ (i : Int) < (n : Int) := by omega
      go_wp2
      go_ret
      exact ⟨rfl, RN.out.b⟩
end Go.Proofs.YtkejjiilcoacfaaGreat
