/- first with the function that Breach hands on. -/
import Derived.Test.YtjaccgkeldabfaaGreatFirst
import Derived.Test.YtjaccgkeldabfaaGreatEach
namespace Go.Proofs.YtjaccgkeldabfaaGreat
open Go.RowKit

theorem each_iff {f : Pr → Bool} {l l' : List Int} : eachB f l l' = true ↔ ∀ x ∈ l, ∀ y ∈ l', f (turnP (x, y)) = true := by
  unfold eachB
  rw [List.all_eq_true]
  constructor
  · intro h x hx y hy
    exact List.all_eq_true.1 (h x hx) y hy
  · intro h x hx
    exact List.all_eq_true.2 fun y hy => h x hx y hy
theorem each_comm (f : Pr → Bool) (l l' : List Int) : eachB f l l' = eachB f l' l := by
  have e : ∀ x y : Int, turnP (x, y) = turnP (y, x) := fun x y => turn_eq.2 (.inr ⟨rfl, rfl⟩)
  rw [Bool.eq_iff_iff, each_iff, each_iff]
  constructor <;> (intro h x hx y hy; rw [e]; exact h y hy x hx)
theorem symB38 {bl : List (Int × List Int)} {p : Int → Bool} {fs : Pr → Bool} (q q' : Pr) (h : turnP q = turnP q') : (!eachB fs (vL bl p q.1) (vL bl p q.2)) = (!eachB fs (vL bl p q'.1) (vL bl p q'.2)) := by
  rcases turn_eq.1 h with ⟨h1, h2⟩ | ⟨h1, h2⟩
  · rw [h1, h2]
  · rw [h1, h2, each_comm]
set_option maxRecDepth 100000 in
set_option maxHeartbeats 8000000 in
theorem first38_any (w : World) (b kk : Nat) (aS : Option Addr) (nS cS : Nat) (bl : List (Int × List Int)) (sl ss sh : Value) (m r : Int) (aL : Option Addr) (nL cL : Nat) (l : List Pr) (Bh bh nh : Nat) (fs : Pr → Bool) (KL : List Int) (hK : ∀ q ∈ l, q.1 ∈ KL ∧ q.2 ∈ KL) (hKk : KL.length ≤ kk) (hn : nS ≤ 4398046511000) (hbig : ∀ q ∈ bl, q.2.length ≤ 17592186043904) (hwb : ∀ q ∈ bl, ∀ x ∈ q.2, wfI x) (hm : wfI m) (hk : kk ≤ 2305843009213693952) (hl : l.length = nL) (hnL : nL ≤ 2199023255000) (hwl : ∀ p ∈ l, wfP p) (hS : S.BindsAt w aS nS bl) (hR : Rd w b kk bl (isV m r) KL) (hL : PairsAt w aL l) (hP : PSet w bh nh fs) (hc : w.cell? ⟨Bh, 0, none⟩ = some (.map (some bh))) (hne : bh ≠ b) :
    Calls Tryz.prog 32 #[readerV aS nS cS (fnV (carried sl ss sh m r)) b, .slice aL nL cL, .func (.func 38) #[] #[.pointer (some ⟨Bh, 0, none⟩)]] w fun e w' => FirstIs w w' e b kk bl (isV m r) KL l (fun q => !eachB fs (vL bl (isV m r) q.1) (vL bl (isV m r) q.2)) := by
  unfold FirstIs
  have VARS : Hid (∀ (W : World) (v : Int), v ∈ KL → wfI v → S.BindsAt W aS nS bl → Rd W b kk bl (isV m r) KL → Calls Tryz.prog 34 #[readerV aS nS cS (fnV (carried sl ss sh m r)) b, .int .i64 v] W fun e w' => VarsIs W w' e b kk bl (isV m r) KL v) := fun W v h1 h2 h3 h4 => variables_any W b kk aS nS cS bl sl ss sh m r v KL h1 hKk hn hbig hwb h2 hm (by omega) h3 h4
  have VLN : Hid (∀ v, (vL bl (isV m r) v).length ≤ 17592186043904) := fun v => Nat.le_trans (vL_len _ _ _) (str_len hbig v)
  have VWF : Hid (∀ v, wfI v → ∀ x ∈ vL bl (isV m r) v, wfI x) := fun v hv x hx => str_wf hwb hv x (vL_mem.1 hx).1
  obtain ⟨fv, hfv⟩ : ∃ fv, fv = fnV (carried sl ss sh m r) := ⟨_, rfl⟩
  rw [← hfv] at VARS ⊢
  generalize isV m r = p at *
  unfold readerV at *
  obtain ⟨bad, hbad⟩ : ∃ bad : Pr → Bool, bad = (fun q => !eachB fs (vL bl p q.1) (vL bl p q.2)) := ⟨_, rfl⟩
  rw [← hbad]
  have SYM : Hid (∀ q q' : Pr, turnP q = turnP q' → bad q = bad q') := fun q q' h => by rw [hbad]; exact symB38 _ _ h
  have HBAD : Hid (bad = (fun q => !eachB fs (vL bl p q.1) (vL bl p q.2))) := hbad
  obtain ⟨w3, hw3⟩ : ∃ w3, w3 = ((w.alloc (.cells #[.slice aS nS cS, fv, .map (some b)] 77)).alloc (.cells #[.int .i64 0, .int .i64 0] 33)).alloc (.map #[] 0) := ⟨_, rfl⟩
  have hs3 : w3.heap.size = w.heap.size + 3 := by rw [hw3]; simp
  have B3 : Hid (Below w.heap.size w w3) := by rw [hw3]; exact ((below_alloc _ _).alloc (by simp) _).alloc (by simp; omega) _
  have KS : Hid (w3.cell? ⟨w.heap.size, 0, none⟩ = some (.slice aS nS cS) ∧ w3.cell? ⟨w.heap.size, 1, none⟩ = some fv ∧ w3.cell? ⟨w.heap.size, 2, none⟩ = some (.map (some b))) := by
    refine ⟨?_, ?_, ?_⟩ <;> (rw [hw3, World.cell?_alloc_old _ _ _ (by simp; omega), World.cell?_alloc_old _ _ _ (by simp)]; exact World.cell?_alloc_new w _ _ _)
  have K6 : Hid (w3.heap[w.heap.size + 1]? = some (.cells #[.int .i64 0, .int .i64 0] 33 (0, 0))) := by
    have e1 : (w.alloc (.cells #[.slice aS nS cS, fv, .map (some b)] 77)).heap.size = w.heap.size + 1 := by simp
    rw [hw3, Below.heap_alloc _ _ _ (by simp), ← e1]
    exact World.alloc_heap_new _ _
  have PS0 : PS w3 (w.heap.size + 2) 0 (fun q => ∃ q' ∈ l.take 0, turnP q' = q) := by
    have h := PSet.made ((w.alloc (.cells #[.slice aS nS cS, fv, .map (some b)] 77)).alloc (.cells #[.int .i64 0, .int .i64 0] 33))
    rw [← hw3] at h
    have e2 : ((w.alloc (.cells #[.slice aS nS cS, fv, .map (some b)] 77)).alloc (.cells #[.int .i64 0, .int .i64 0] 33)).heap.size = w.heap.size + 2 := by simp
    rw [e2] at h
    exact ⟨_, h, fun q _ => by simp⟩
  have R3 : Rd w3 b kk bl p KL := hR.kept (B3.out.block b hR.low) (sub_below B3.out)
  have hbl : b < w.heap.size := hR.low
  have HLB : Hid (b < w.heap.size) := hbl
  have INV0 : Hid (FInv w w3 b (w.heap.size + 1) (w.heap.size + 2) kk bl p KL l bad 0 w3) := ⟨R3, PS0, fun q hq => by simp at hq, Turn.of_below B3.out, sub_below B3.out, Sub.refl _, K6.out⟩
  have HSt : Hid (S.BindsAt w aS nS bl) := hS
  have HPL : Hid (PairsAt w aL l) := hL
  have HLL : Hid (l.length = nL) := hl
  have HKL : Hid (∀ q ∈ l, q.1 ∈ KL ∧ q.2 ∈ KL) := hK
  have HWL : Hid (∀ q ∈ l, wfP q) := hwl
  have HS3 : Hid (w3.heap.size = w.heap.size + 3) := hs3
  have HPS : Hid (PSet w bh nh fs) := hP
  have HCB : Hid (w.cell? ⟨Bh, 0, none⟩ = some (.map (some bh))) := hc
  have HNE : Hid (bh ≠ b) := hne
  clear hK hKk hn hbig hwb hm hl hwl hS hR hL R3 PS0 hbl hfv K6 B3 hs3 hbad hP hc hne
  generalize hB : w.heap.size = B at *
  have HB : Hid (w.heap.size = B) := hB
  clear hB
  have hmm := @run_makeMap Tryz.prog
  go_enter Tryz.func32, Tryz.ntmps32
  go_wp2_with fail
  clear hmm
  rw [HB.out]
  rw [← hw3]
  clear hw3
  go_loopw [14] (fun i wx => ∃ j : Nat, j ≤ nL ∧ i = .int .i64 j ∧ Hid (FInv w w3 b (B + 1) (B + 2) kk bl p KL l bad j wx)) (fun i _ => nL - (intOf i).toNat)
  case atStart => exact ⟨0, Nat.zero_le _, rfl, INV0.out⟩
  case round =>
    obtain ⟨j, hj, rfl, INV⟩ := hrel
    clear INV0
    by_cases hlt : j < nL
    · have n1 : (j : Int) < (nL : Int) := by omega
      obtain ⟨⟨x, y⟩, hx⟩ : ∃ x, l[j]? = some x := ⟨l[j]'(by rw [HLL.out]; exact hlt), List.getElem?_eq_getElem _⟩
      obtain ⟨b1, o1, rfl, c1, d1⟩ := HPL.out.sub INV.out.sub j _ hx
      have HX : Hid (l[j]? = some (x, y)) := hx
      have WX : Hid (wfP (x, y)) := HWL.out _ (List.mem_of_getElem? hx)
      have KX : Hid (x ∈ KL ∧ y ∈ KL) := HKL.out _ (List.mem_of_getElem? hx)
      obtain ⟨w4, hw4⟩ : ∃ w4, w4 = wr.alloc (.cells #[.int .i64 x, .int .i64 y] 33) := ⟨_, rfl⟩
      have B4 : Hid (Below wr.heap.size wr w4) := by rw [hw4]; exact below_alloc _ _
      have Z0 : w4.cell? ⟨wr.heap.size, 0, none⟩ = some (.int .i64 x) := by rw [hw4]; exact World.cell?_alloc_new wr _ _ 0
      have Z1 : w4.cell? ⟨wr.heap.size, 1, none⟩ = some (.int .i64 y) := by rw [hw4]; exact World.cell?_alloc_new wr _ _ 1
      obtain ⟨f, hPf, hf⟩ := INV.out.ps
      have C55 : Hid _ := hasS_any w4 (B + 2) j f (x, y) WX.out (hPf.kept (B4.out.block _ hPf.low))
      have HF : Hid (f (turnP (x, y)) = true ↔ ∃ q' ∈ l.take j, turnP q' = turnP (x, y)) := hf _ (wf_turn WX.out)
      obtain ⟨fb, hfb⟩ : ∃ fb, f (turnP (x, y)) = fb := ⟨_, rfl⟩
      rw [hfb] at C55 HF
      unfold encP at C55
      dsimp only at C55
      clear hx hPf hf hfb
      go_wp2_with fail
      rw [← hw4]
      clear hw4 c1 d1
      refine Calls.mono C55.out ?_
      rintro e w5 ⟨rfl, hb5⟩
      have B5 : Hid (Below wr.heap.size wr w5) := B4.out.trans (hb5.mono B4.out.size)
      have SS : Hid (∀ w', Sub w5 w' → w'.cell? ⟨B, 0, none⟩ = some (.slice aS nS cS) ∧ w'.cell? ⟨B, 1, none⟩ = some fv ∧ w'.cell? ⟨B, 2, none⟩ = some (.map (some b)) ∧ w'.cell? ⟨wr.heap.size, 0, none⟩ = some (.int .i64 x) ∧ w'.cell? ⟨wr.heap.size, 1, none⟩ = some (.int .i64 y)) := fun w' h => by
        have s1 : Sub w3 w' := INV.out.sub3.trans ((sub_below B5.out).trans h)
        have s2 : Sub w4 w' := (sub_below hb5).trans h
        exact ⟨s1 _ _ KS.out.1, s1 _ _ KS.out.2.1, s1 _ _ KS.out.2.2, s2 _ _ Z0, s2 _ _ Z1⟩
      have I5 : Hid (FInv w w3 b (B + 1) (B + 2) kk bl p KL l bad j w5) := INV.out.below B5.out
      generalize hB10 : wr.heap.size = B10 at *
      clear hb5 C55 Z0 Z1 B4 hB10 INV B5
      rcases fb
      · have FF : Hid (¬ ∃ q' ∈ l.take j, turnP q' = turnP (x, y)) := fun h => by cases HF.out.2 h
        clear HF
        obtain ⟨W5, hW5⟩ : ∃ W5, W5 = w5.drew := ⟨_, rfl⟩
        have I5d : Hid (FInv w w3 b (B + 1) (B + 2) kk bl p KL l bad j w5.drew) := I5.out.below ⟨rfl, rfl, rfl, Nat.le_refl _, fun _ _ => rfl⟩
        have S_0 : Hid (Sub w5 w5.drew) := fun _ _ h => h
        clear hW5 W5
        go_wp2_with fail
        refine wp_region_held_drew (S := fun w' => w'.cell? ⟨B, 0, none⟩ = some (.slice aS nS cS) ∧ w'.cell? ⟨B, 1, none⟩ = some fv ∧ w'.cell? ⟨B, 2, none⟩ = some (.map (some b)) ∧ w'.cell? ⟨B10, 0, none⟩ = some (.int .i64 x) ∧ w'.cell? ⟨B10, 1, none⟩ = some (.int .i64 y)) (by kernel_rfl) ?_ (fun hHeld => ?_)
        · exact SS.out _ S_0.out
        have RD0 : Hid (Rd w5.drew b kk bl p KL) := I5d.out.rd
        have TT0 : Hid (Turn b w w5.drew) := I5d.out.turn
        have HSU0 : Hid (Sub w w5.drew) := I5d.out.sub
        have TB0 : Hid (Turn b w5.drew w5.drew) := Turn.refl _ _
        refine wpAnyH_take (i := 0) (oi := { dst := some 21, op := Op.move (Operand.tmp 2), type := 79, pos := "dist.go:157", after := #[], guard := none }) (v := ?_) rfl (by kernel_rfl) (by kernel_rfl) (by kernel_rfl) (fun _ _ _ h => h) (Or.inl ⟨by rfl, ?_⟩) hHeld ?_
        rotate_left
        · (intro w hSw; (try dsimp only at hSw); go_simp; try with_reducible rfl)
        try simp only [Act.put, List.setIfInBounds_toArray, List.set_cons_zero, List.set_cons_succ]
        refine wpAnyH_take (i := 1) (oi := { dst := some 22, op := Op.load 77 (Operand.tmp 3), type := 77, pos := "dist.go:157", after := #[], guard := none }) (v := ?_) rfl (by kernel_rfl) (by kernel_rfl) (by kernel_rfl) (fun _ _ _ h => h) (Or.inl ⟨by rfl, ?_⟩) hHeld ?_
        rotate_left
        · (intro w hSw; (try dsimp only at hSw); go_simp; try with_reducible rfl)
        try simp only [Act.put, List.setIfInBounds_toArray, List.set_cons_zero, List.set_cons_succ]
        refine wpAnyH_take (i := 2) (oi := { dst := some 23, op := Op.fieldAddr 33 (Operand.tmp 10) 0, type := 0, pos := "dist.go:157", after := #[], guard := none }) (v := ?_) rfl (by kernel_rfl) (by kernel_rfl) (by kernel_rfl) (fun _ _ _ h => h) (Or.inl ⟨by rfl, ?_⟩) hHeld ?_
        rotate_left
        · (intro w hSw; (try dsimp only at hSw); go_simp; try with_reducible rfl)
        try simp only [Act.put, List.setIfInBounds_toArray, List.set_cons_zero, List.set_cons_succ]
        refine wpAnyH_take (i := 3) (oi := { dst := some 24, op := Op.load 3 (Operand.tmp 23), type := 3, pos := "dist.go:157", after := #[{ on := 2, ground := Ground.data }], guard := none }) (v := ?_) rfl (by kernel_rfl) (by kernel_rfl) (by kernel_rfl) (fun _ _ _ h => h) (Or.inl ⟨by rfl, ?_⟩) hHeld ?_
        rotate_left
        · (intro w hSw; (try dsimp only at hSw); go_simp; try with_reducible rfl)
        try simp only [Act.put, List.setIfInBounds_toArray, List.set_cons_zero, List.set_cons_succ]
        refine wpAnyH_take (i := 5) (oi := { dst := some 26, op := Op.load 77 (Operand.tmp 3), type := 77, pos := "dist.go:157", after := #[], guard := none }) (v := ?_) rfl (by kernel_rfl) (by kernel_rfl) (by kernel_rfl) (fun _ _ _ h => h) (Or.inl ⟨by rfl, ?_⟩) hHeld ?_
        rotate_left
        · (intro w hSw; (try dsimp only at hSw); go_simp; try with_reducible rfl)
        try simp only [Act.put, List.setIfInBounds_toArray, List.set_cons_zero, List.set_cons_succ]
        refine wpAnyH_take (i := 6) (oi := { dst := some 27, op := Op.fieldAddr 33 (Operand.tmp 10) 1, type := 0, pos := "dist.go:157", after := #[], guard := none }) (v := ?_) rfl (by kernel_rfl) (by kernel_rfl) (by kernel_rfl) (fun _ _ _ h => h) (Or.inl ⟨by rfl, ?_⟩) hHeld ?_
        rotate_left
        · (intro w hSw; (try dsimp only at hSw); go_simp; try with_reducible rfl)
        try simp only [Act.put, List.setIfInBounds_toArray, List.set_cons_zero, List.set_cons_succ]
        refine wpAnyH_take (i := 7) (oi := { dst := some 28, op := Op.load 3 (Operand.tmp 27), type := 3, pos := "dist.go:157", after := #[{ on := 6, ground := Ground.data }], guard := none }) (v := ?_) rfl (by kernel_rfl) (by kernel_rfl) (by kernel_rfl) (fun _ _ _ h => h) (Or.inl ⟨by rfl, ?_⟩) hHeld ?_
        rotate_left
        · (intro w hSw; (try dsimp only at hSw); go_simp; try with_reducible rfl)
        try simp only [Act.put, List.setIfInBounds_toArray, List.set_cons_zero, List.set_cons_succ]
        refine wpAnyH_ready (rs := [4]) (by kernel_rfl) (by simp) ?_
        refine AllReadyH.cons (o := { dst := some 25, op := Op.call { callee := Callee.value (Operand.func 34), args := #[Operand.tmp 22, Operand.tmp 24], argTypes := #[77, 3] }, type := 44, pos := "dist.go:157", after := #[{ on := 1, ground := Ground.data }, { on := 3, ground := Ground.data }], guard := none }) rfl (fun K hK => ?_) AllReadyH.nil
        have CN : Hid _ := VARS.out w5.drew x KX.out.1 WX.out.1 (HSt.out.sub (HSU0.out)) RD0.out
        unfold VarsIs at CN
        go_simp
        go_at_call 34
        refine Calls.mono CN.out ?_
        rintro e v1w ⟨a1, c1, rfl, hI, hR, hT, hs⟩
        have RD1 : Hid (Rd v1w b kk bl p KL) := hR
        have TT1 : Hid (Turn b w v1w) := TT0.out.trans hT
        have HSU1 : Hid (Sub w v1w) := HSU0.out.trans hs
        have S_1 : Hid (Sub w5 v1w) := S_0.out.trans hs
        have TB1 : Hid (Turn b w5.drew v1w) := TB0.out.trans hT
        have IX : Hid (∀ w', Sub v1w w' → IntsAt w' a1 (vL bl p x)) := fun w' h => hI.sub h
        obtain ⟨nx, hnx⟩ : ∃ n, (vL bl p x).length = n := ⟨_, rfl⟩
        have NX : Hid ((vL bl p x).length = nx) := hnx
        rw [hnx]
        have hs_1 : Hid True := trivial
        clear CN hI hR hT hs hnx hs_1
        try go_wp2_with fail
        refine hK.out _ _ ?_ (fun hHeld_4 => ?_)
        · exact SS.out _ S_1.out
        clear hK K
        try simp only [Act.put, List.setIfInBounds_toArray, List.set_cons_zero, List.set_cons_succ]
        refine wpAnyH_ready (rs := [8]) (by kernel_rfl) (by simp) ?_
        refine AllReadyH.cons (o := { dst := some 29, op := Op.call { callee := Callee.value (Operand.func 34), args := #[Operand.tmp 26, Operand.tmp 28], argTypes := #[77, 3] }, type := 44, pos := "dist.go:157", after := #[{ on := 5, ground := Ground.data }, { on := 7, ground := Ground.data }, { on := 4, ground := Ground.chain }], guard := none }) rfl (fun K hK => ?_) AllReadyH.nil
        have CN : Hid _ := VARS.out v1w y KX.out.2 WX.out.2 (HSt.out.sub (HSU1.out)) RD1.out
        unfold VarsIs at CN
        go_simp
        go_at_call 34
        refine Calls.mono CN.out ?_
        rintro e v2w ⟨a2, c2, rfl, hI, hR, hT, hs⟩
        have RD2 : Hid (Rd v2w b kk bl p KL) := hR
        have TT2 : Hid (Turn b w v2w) := TT1.out.trans hT
        have HSU2 : Hid (Sub w v2w) := HSU1.out.trans hs
        have S_2 : Hid (Sub w5 v2w) := S_1.out.trans hs
        have TB2 : Hid (Turn b w5.drew v2w) := TB1.out.trans hT
        have IY : Hid (IntsAt v2w a2 (vL bl p y)) := hI
        have IXX : Hid (IntsAt v2w a1 (vL bl p x)) := IX.out _ hs
        obtain ⟨ny, hny⟩ : ∃ n, (vL bl p y).length = n := ⟨_, rfl⟩
        have NY : Hid ((vL bl p y).length = ny) := hny
        rw [hny]
        clear CN hI hR hT hs hny
        try go_wp2_with fail
        refine hK.out _ _ ?_ (fun hHeld_8 => ?_)
        · exact SS.out _ S_2.out
        clear hK K
        try simp only [Act.put, List.setIfInBounds_toArray, List.set_cons_zero, List.set_cons_succ]
        refine wpAnyH_ready (rs := [9]) (by kernel_rfl) (by simp) ?_
        refine AllReadyH.cons (o := { dst := some 30, op := Op.call { callee := Callee.value (Operand.tmp 21), args := #[Operand.tmp 25, Operand.tmp 29], argTypes := #[44, 44] }, type := 4, pos := "dist.go:157", after := #[{ on := 0, ground := Ground.data }, { on := 4, ground := Ground.data }, { on := 8, ground := Ground.data }, { on := 8, ground := Ground.chain }], guard := none }) rfl (fun K hK => ?_) AllReadyH.nil
        have CN : Hid _ := notEach_any v2w Bh bh nh fs a1 a2 nx c1 ny c2 (vL bl p x) (vL bl p y) NX.out (by rw [← NX.out]; exact VLN.out x) NY.out (by rw [← NY.out]; exact VLN.out y) (VWF.out x WX.out.1) (VWF.out y WX.out.2) IXX.out IY.out (HPS.out.kept (TT2.out.block _ HPS.out.low HNE.out)) (HSU2.out _ _ HCB.out)
        have EB : Hid (bad (x, y) = (fun q => !eachB fs (vL bl p q.1) (vL bl p q.2)) (x, y)) := by show _ = _; rw [HBAD.out]
        have EB2 := EB.out
        dsimp only at EB2
        rw [← EB2] at CN
        obtain ⟨jb, hjb⟩ : ∃ jb, bad (x, y) = jb := ⟨_, rfl⟩
        have HJ : Hid (bad (x, y) = jb) := hjb
        rw [hjb] at CN
        clear EB EB2 hjb
        go_simp
        go_at_call 38
        refine Calls.mono CN.out ?_
        rintro e v3w ⟨rfl, hb⟩
        have S_3 : Hid (Sub w5 v3w) := S_2.out.trans (sub_below hb)
        have I6 : Hid (FMid w w3 b (B + 1) (B + 2) kk bl p KL l j v3w) := I5d.out.mid (by have := HLB.out; omega) TB2.out RD2.out TT2.out HSU2.out hb
        clear CN hb
        try go_wp2_with fail
        refine hK.out _ _ ?_ (fun hHeld_9 => ?_)
        · exact SS.out _ S_3.out
        clear hK K
        try simp only [Act.put, List.setIfInBounds_toArray, List.set_cons_zero, List.set_cons_succ]
        refine wpAnyH_done (by kernel_rfl) ?_ _
        clear IX IXX IY NX NY RD0 RD1 RD2 TT0 TT1 TT2 HSU0 HSU1 HSU2 S_0 S_1 S_2 TB0 TB1 TB2 I5d
        obtain ⟨l0, l1, l2, z0, z1⟩ := SS.out _ S_3.out
        rcases jb
        · have C35 : Hid _ := put_any v3w (B + 2) j _ (x, y) (by omega) WX.out I6.out.ps
          unfold encP at C35
          dsimp only at C35
          go_wp2_with fail
          refine Calls.mono C35.out ?_
          rintro e w6 ⟨rfl, hP6, hT6⟩
          have INV2 : Hid (FInv w w3 b (B + 1) (B + 2) kk bl p KL l bad (j + 1) w6) := I6.out.next I5.out.ok HX.out HJ.out hP6 hT6 HLB.out (by rw [HB.out]; omega) (by omega)
          clear C35 hP6 hT6
          go_wp2
          go_roundw
          case rel => exact ⟨j + 1, by omega, by go_num, INV2.out⟩
          case measure => simp [intOf]; omega
        · have HFd : Hid (l.find? bad = some (x, y)) := find_at HX.out HJ.out I5.out.ok
          have k6 := I6.out.res
          have m0 : v3w.cell? ⟨B + 1, 0, none⟩ = some (.int .i64 0) := by simp [World.cell?, k6]
          have m1 : v3w.cell? ⟨B + 1, 1, none⟩ = some (.int .i64 0) := by simp [World.cell?, k6]
          have q0 : v3w.frozen? ⟨B + 1, 0, none⟩ = false := by simp [World.frozen?, k6]
          have q1 : v3w.frozen? ⟨B + 1, 1, none⟩ = false := by simp [World.frozen?, k6]
          have HW : Hid (Turn b w ((v3w.setCell ⟨B + 1, 0, none⟩ (.int .i64 x)).setCell ⟨B + 1, 1, none⟩ (.int .i64 y)) ∧ Sub w ((v3w.setCell ⟨B + 1, 0, none⟩ (.int .i64 x)).setCell ⟨B + 1, 1, none⟩ (.int .i64 y))) := far_set2 I6.out.turn I6.out.sub (by rw [HB.out]; omega) _ _
          clear k6
          obtain ⟨wE, hwE⟩ : ∃ wE, wE = (v3w.setCell ⟨B + 1, 0, none⟩ (.int .i64 x)).setCell ⟨B + 1, 1, none⟩ (.int .i64 y) := ⟨_, rfl⟩
          rw [← hwE] at HW
          have kw0 : wE.cell? ⟨B + 1, 0, none⟩ = some (.int .i64 x) := by rw [hwE, World.cell?_setCell_other _ _ _ _ (by simp)]; exact World.cell?_setCell_same _ _ _ m0
          have kw1 : wE.cell? ⟨B + 1, 1, none⟩ = some (.int .i64 y) := by rw [hwE]; exact World.cell?_setCell_same _ _ _ ((World.cell?_setCell_other _ _ _ _ (by simp)).trans m1)
          go_wp2
          rw [← hwE]
          clear hwE m0 m1 q0 q1
          refine bodyPost_ret (v := .tuple #[.agg #[.int .i64 x, .int .i64 y], .bool true]) (by simp [results, Tryz.results32, go_sem, kw0, kw1]) rfl ?_
          rw [HFd.out]
          exact ⟨rfl, HW.out.1, HW.out.2, fun h => by cases h⟩
      · have TR : Hid (∃ q' ∈ l.take j, turnP q' = turnP (x, y)) := HF.out.1 rfl
        have INV2 : Hid (FInv w w3 b (B + 1) (B + 2) kk bl p KL l bad (j + 1) w5) := I5.out.again HX.out TR.out SYM.out
        clear HF SS I5 TR
        go_wp2
        go_roundw
        case rel => exact ⟨j + 1, by omega, by go_num, INV2.out⟩
        case measure => simp [intOf]; omega
    · have n1 : ¬ (j : Int) < (nL : Int) := by omega
      have HFd : Hid (l.find? bad = none) := find_none (by have h := INV.out.ok; rw [List.take_of_length_le (by rw [HLL.out]; omega)] at h; exact h)
      have k6 := INV.out.res
      have m0 : wr.cell? ⟨B + 1, 0, none⟩ = some (.int .i64 0) := by simp [World.cell?, k6]
      have m1 : wr.cell? ⟨B + 1, 1, none⟩ = some (.int .i64 0) := by simp [World.cell?, k6]
      have q0 : wr.frozen? ⟨B + 1, 0, none⟩ = false := by simp [World.frozen?, k6]
      have q1 : wr.frozen? ⟨B + 1, 1, none⟩ = false := by simp [World.frozen?, k6]
      have HW : Hid (Turn b w ((wr.setCell ⟨B + 1, 0, none⟩ (.int .i64 0)).setCell ⟨B + 1, 1, none⟩ (.int .i64 0)) ∧ Sub w ((wr.setCell ⟨B + 1, 0, none⟩ (.int .i64 0)).setCell ⟨B + 1, 1, none⟩ (.int .i64 0)) ∧ Rd ((wr.setCell ⟨B + 1, 0, none⟩ (.int .i64 0)).setCell ⟨B + 1, 1, none⟩ (.int .i64 0)) b kk bl p KL) := INV.out.done (by rw [HB.out]; omega)
      clear k6 INV
      obtain ⟨wE, hwE⟩ : ∃ wE, wE = (wr.setCell ⟨B + 1, 0, none⟩ (.int .i64 0)).setCell ⟨B + 1, 1, none⟩ (.int .i64 0) := ⟨_, rfl⟩
      rw [← hwE] at HW
      have kw0 : wE.cell? ⟨B + 1, 0, none⟩ = some (.int .i64 0) := by rw [hwE, World.cell?_setCell_other _ _ _ _ (by simp)]; exact World.cell?_setCell_same _ _ _ m0
      have kw1 : wE.cell? ⟨B + 1, 1, none⟩ = some (.int .i64 0) := by rw [hwE]; exact World.cell?_setCell_same _ _ _ ((World.cell?_setCell_other _ _ _ _ (by simp)).trans m1)
      go_wp2
      rw [← hwE]
      clear hwE m0 m1 q0 q1
      refine bodyPost_ret (v := .tuple #[.agg #[.int .i64 0, .int .i64 0], .bool false]) (by simp [results, Tryz.results32, go_sem, kw0, kw1]) rfl ?_
      rw [HFd.out]
      exact ⟨rfl, HW.out.1, HW.out.2.1, fun _ => HW.out.2.2⟩
end Go.Proofs.YtjaccgkeldabfaaGreat
