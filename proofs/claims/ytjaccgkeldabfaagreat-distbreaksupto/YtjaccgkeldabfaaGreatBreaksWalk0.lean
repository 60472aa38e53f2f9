/- DistBreaks: the walk where a substitution can be made. -/
import Derived.Test.YtjaccgkeldabfaaGreatBreaksBase
namespace Go.Proofs.YtjaccgkeldabfaaGreat
open Go.RowKit

set_option maxRecDepth 100000 in
set_option maxHeartbeats 64000000 in
theorem breaks_walk0 (w : World) (aL : Option Addr) (nL cL : Nat) (l : List Pr) (a0 : Option Addr) (n0 c0 : Nat) (vs0 : List (Int × Value)) (b0 : List (Int × List Int)) (aH : Option Addr) (nH cH : Nat) (hv : List Pr) (m r d : Int) (U : List Int)
    (hl : l.length = nL) (hnL : nL ≤ 1048576) (hcL : nL ≤ cL) (hl0 : b0.length = n0) (hn0 : n0 ≤ 1048576) (hlH : hv.length = nH) (hnH : nH ≤ 1048576) (hL : PairsAt w aL l) (hR0 : S.RowAt w a0 (S.rowB vs0)) (hM0 : S.Matches w vs0 b0) (hH : PairsAt w aH hv) (D : Dat l hv b0 U m d) (hdn : (b0.map (·.1)).Nodup) :
    Calls Tryz.prog 3 #[.agg #[.slice aL nL cL, .slice a0 n0 c0, .slice aH nH cH, .int .i64 m, .int .i64 r], .int .i64 d] w fun e w' => e = .returned (.bool true) ∧ Below w.heap.size w w' := by
  have DD : Hid (Dat l hv b0 U m d) := D
  have HL : Hid (l.length = nL) := hl
  have HH : Hid (hv.length = nH) := hlH
  have PL : Hid (PairsAt w aL l) := hL
  have PH : Hid (PairsAt w aH hv) := hH
  obtain ⟨w1, hw1⟩ : ∃ w1, w1 = w.alloc (.cells #[.slice aL nL cL, .slice a0 n0 c0, .slice aH nH cH, .int .i64 m, .int .i64 r] 25) := ⟨_, rfl⟩
  have B1 : Hid (Below w.heap.size w w1) := by rw [hw1]; exact below_alloc _ _
  have K1 : Hid (∀ (i : Nat) (u : Value), (#[Value.slice aL nL cL, .slice a0 n0 c0, .slice aH nH cH, .int .i64 m, .int .i64 r])[i]? = some u → w1.cell? ⟨w.heap.size, i, none⟩ = some u) := fun i u hi => by rw [hw1, World.cell?_alloc_new w _ _ i]; exact hi
  have CN1 : Hid _ := newU2 w1 a0 n0 c0 vs0 b0 hl0 (by omega) (fun q hq => by have := D.g0 q hq; omega) (hR0.under B1.out) (hM0.under B1.out)
  have HN0 : Hid (b0.length = n0) := hl0
  have k1 : w1.cell? ⟨w.heap.size, 1, none⟩ = some (.slice a0 n0 c0) := K1.out 1 _ rfl
  rw [hw1] at k1
  clear hl hlH hL hR0 hM0 hH D hl0
  generalize hB2 : w.heap.size = B2 at *
  have HB2 : Hid (w.heap.size = B2) := hB2
  go_enter Tryz.func3, Tryz.ntmps3
  go_wp2_with fail
  try rw [hB2]
  rw [← hw1]
  clear hw1 hB2 k1
  refine Calls.mono CN1.out ?_
  rintro e w2 ⟨hb2, sl, aS, cs, er1, rfl, hC2, hcase⟩
  obtain ⟨ks, hks⟩ : ∃ k, sl.length = k := ⟨_, rfl⟩
  have KSl : Hid (sl.length = ks) := hks
  rw [hks] at hC2 ⊢
  obtain ⟨wT, hwT⟩ : ∃ wT, wT = w2.alloc (.cells #[.slice aS ks cs] 27) := ⟨_, rfl⟩
  have b1T : Below w1.heap.size w1 wT := by rw [hwT]; exact hb2.alloc hb2.size _
  have BT : Hid (Below B2 w wT) := B1.out.trans (b1T.mono (by rw [← HB2.out]; exact B1.out.size))
  have S1T : Hid (Sub w1 wT) := sub_below b1T
  have CT : Hid (S.BindsC wT aS ks sl) := by rw [hwT]; exact hC2.under (S.below_alloc _ _)
  have K5 : wT.heap[w2.heap.size]? = some (.cells #[.slice aS ks cs] 27 (0, 0)) := by rw [hwT]; exact World.alloc_heap_new _ _
  generalize hB5 : w2.heap.size = B5 at *
  have hB15 : w1.heap.size ≤ B5 := by rw [← hB5]; exact hb2.size
  have hB25 : B2 < B5 := by have := hb2.size; have := World.block_lt_of_cell? _ _ (K1.out 0 _ rfl); dsimp only at this; omega
  rcases hcase with ⟨h40, hnd⟩ | ⟨h0, hp1, hd1⟩
  · exact absurd hdn hnd
  · subst h0
    have hks2 : ks ≤ 1048576 := by rw [← hks, hp1.length_eq, HN0.out]; exact hn0
    have BW : Hid (Below B2 w wT) := BT.out
    have k5S : wT.cell? ⟨B5, 0, none⟩ = some (.slice aS ks cs) := by simp [World.cell?, K5]
    have S1S : Sub w1 wT := S1T.out
    have BND : S.BindsAt wT aS ks sl := CT.out.binds
    have BIG : Hid (∀ q ∈ sl, q.2.length ≤ 17592186043904) := fun q hq => by have := DD.out.g0 q (hp1.mem_iff.1 hq); omega
    have WB : Hid (∀ q ∈ sl, ∀ x ∈ q.2, wfI x) := fun q hq => DD.out.w0 q (hp1.mem_iff.1 hq)
    have INN : ∀ q ∈ l, (∀ x ∈ strOf sl q.1, x ∈ U) ∧ ∀ x ∈ strOf sl q.2, x ∈ U := DD.out.inn (fun q hq => hp1.mem_iff.1 hq)
    have KB : Hid (∀ w', Sub wT w' → w'.cell? ⟨B2, 0, none⟩ = some (.slice aL nL cL) ∧ w'.cell? ⟨B2, 1, none⟩ = some (.slice a0 n0 c0) ∧ w'.cell? ⟨B2, 2, none⟩ = some (.slice aH nH cH) ∧ w'.cell? ⟨B2, 3, none⟩ = some (.int .i64 m) ∧ w'.cell? ⟨B2, 4, none⟩ = some (.int .i64 r) ∧ w'.cell? ⟨B5, 0, none⟩ = some (.slice aS ks cs)) := fun w' h => ⟨h _ _ (S1S _ _ (K1.out 0 _ rfl)), h _ _ (S1S _ _ (K1.out 1 _ rfl)), h _ _ (S1S _ _ (K1.out 2 _ rfl)), h _ _ (S1S _ _ (K1.out 3 _ rfl)), h _ _ (S1S _ _ (K1.out 4 _ rfl)), h _ _ k5S⟩
    have SWS : Hid (Sub w wT) := fun q v hq => S1S _ _ (sub_below (by rw [HB2.out]; exact B1.out) q v hq)
    have CAR : Hid (∀ (W : World) (aX : Option Addr) (nX cX : Nat) (lx : List Pr), Sub wT W → lx.length = nX → nX ≤ 1048576 → (∀ q ∈ lx, q ∈ l) → PairsAt W aX lx → Calls Tryz.prog 9 #[.slice aX nX cX, .agg #[.slice aS ks cs], .func (.func 10) #[.agg #[.slice aL nL cL, .slice a0 n0 c0, .slice aH nH cH, .int .i64 m, .int .i64 r]] #[]] W fun e w' => CarryIs W w' e sl (isV m r) lx) := fun W aX nX cX lx h1 h2 h3 h4 h5 =>
      carry_any W aX nX cX lx aS ks cs sl _ _ _ m r U (by omega) BIG.out WB.out DD.out.wm h2 (by omega) (fun q hq => DD.out.wl q (h4 q hq)) (BND.sub h1) h5 (fun q hq => INN q (h4 q hq)) DD.out.len
    have BRE : Hid (∀ (W : World) (aX : Option Addr) (nX cX : Nat) (lx : List Pr) (aY : Option Addr) (nY cY : Nat) (ly : List Pr), Sub wT W → lx.length = nX → nX ≤ 1048576 → (∀ q ∈ lx, q ∈ l) → PairsAt W aX lx → ly.length = nY → nY ≤ 4398046511000 → (∀ q ∈ ly, wfP q) → PairsAt W aY ly → Calls Tryz.prog 11 #[.slice aX nX cX, .agg #[.slice aS ks cs], .func (.func 10) #[.agg #[.slice aL nL cL, .slice a0 n0 c0, .slice aH nH cH, .int .i64 m, .int .i64 r]] #[], .slice aY nY cY] W fun e w' => BreachIs W w' e sl (isV m r) lx ly) := fun W aX nX cX lx aY nY cY ly h1 h2 h3 h4 h5 h6 h7 h8 h9 =>
      breach_any W aX nX cX lx aS ks cs sl _ _ _ m r aY nY cY ly (by omega) BIG.out WB.out DD.out.wm h2 (by omega) (fun q hq => DD.out.wl q (h4 q hq)) (BND.sub h1) h5 h6 h7 h8 h9
    clear CN1 hC2 hb2 hks S1S BND INN k5S CT K5 hp1 hd1 b1T
    go_wp2_with fail
    try rw [hB5]
    rw [← hwT]
    clear hwT hB5
    obtain ⟨wS, hwS⟩ : ∃ wS, wS = wT := ⟨_, rfl⟩
    subst hwS
    have AL : Hid _ := alive_any wS
    refine Calls.mono AL.out ?_
    rintro e wA ⟨rfl, hbA⟩
    have SA : Hid (Sub wS wA) := sub_below hbA
    have BA : Hid (Below B2 w wA) := BW.out.trans (hbA.mono (by have := BW.out.size; rw [HB2.out] at this; exact this))
    have LA : Hid (PairsAt wA aL l) := PL.out.sub (SWS.out.trans SA.out)
    have HA : Hid (PairsAt wA aH hv) := PH.out.sub (SWS.out.trans SA.out)
    have C9 : Hid _ := CAR.out wA aL nL cL l SA.out HL.out hnL (fun q hq => hq) LA.out
    obtain ⟨k0, k1, k2, k3, k4, k5⟩ := KB.out wA SA.out
    clear AL hbA
    go_wp2_with fail
    clear k0 k1 k2 k3 k4 k5
    refine Calls.mono C9.out ?_
    intro e wB hcar
    obtain ⟨hbB, ax, cx, mm, ⟨x0, y0⟩, fine, rfl, hPm, hlm, hask⟩ := carryU hcar
    obtain ⟨qm, hqm⟩ : ∃ q, mm.length = q := ⟨_, rfl⟩
    have QM : Hid (mm.length = qm) := hqm
    rw [hqm] at hlm ⊢
    obtain ⟨hlm, hcx⟩ := hlm
    obtain ⟨wC, hwC⟩ : ∃ wC, wC = wB.alloc (.cells #[.int .i64 x0, .int .i64 y0] 33) := ⟨_, rfl⟩
    have sBC : Below wB.heap.size wB wC := by rw [hwC]; exact below_alloc _ _
    have sAC : Below wA.heap.size wA wC := hbB.trans (sBC.mono hbB.size)
    have SC : Hid (Sub wA wC) := sub_below sAC
    have BC : Hid (Below B2 w wC) := BA.out.trans (sAC.mono (by have := BA.out.size; rw [HB2.out] at this; exact this))
    have PM : Hid (PairsAt wC ax mm) := hPm.under sBC
    have ASK : Hid (AskIs sl (isV m r) l mm (x0, y0) fine) := hask
    have e80 : wC.cell? ⟨wB.heap.size, 0, none⟩ = some (.int .i64 x0) := by rw [hwC]; exact World.cell?_alloc_new wB _ _ 0
    have e81 : wC.cell? ⟨wB.heap.size, 1, none⟩ = some (.int .i64 y0) := by rw [hwC]; exact World.cell?_alloc_new wB _ _ 1
    have E8 : Hid (wC.cell? ⟨wB.heap.size, 0, none⟩ = some (.int .i64 x0) ∧ wC.cell? ⟨wB.heap.size, 1, none⟩ = some (.int .i64 y0)) := ⟨e80, e81⟩
    have C11 : Hid _ := BRE.out wC aL nL cL l aH nH cH hv (SA.out.trans SC.out) HL.out hnL (fun q hq => hq) (LA.out.sub SC.out) HH.out (by omega) DD.out.wh (HA.out.sub SC.out)
    obtain ⟨k0, k1, k2, k3, k4, k5⟩ := KB.out wC (SA.out.trans SC.out)
    rw [hwC] at k0 k1 k2 k3 k4 k5
    generalize hB8 : wB.heap.size = B8 at *
    unfold encP
    clear C9 hcar hbB hPm hask hqm sBC sAC e80 e81
    go_wp2_with fail
    try rw [hB8]
    rw [← hwC]
    clear hwC k0 k1 k2 k3 k4 k5
    refine Calls.mono C11.out ?_
    rintro e wD ⟨rfl, hbD⟩
    obtain ⟨⟨px, py⟩, hpx⟩ : ∃ q, (l.find? (badH sl (isV m r) hv)).getD (0, 0) = q := ⟨_, rfl⟩
    have HPX : Hid ((l.find? (badH sl (isV m r) hv)).getD (0, 0) = (px, py)) := hpx
    obtain ⟨fb, hfb⟩ : ∃ fb, (l.find? (badH sl (isV m r) hv)).isSome = fb := ⟨_, rfl⟩
    have HFB : Hid ((l.find? (badH sl (isV m r) hv)).isSome = fb) := hfb
    rw [hpx, hfb]
    obtain ⟨wE, hwE⟩ : ∃ wE, wE = wD.alloc (.cells #[.int .i64 px, .int .i64 py] 33) := ⟨_, rfl⟩
    have sDE : Below wD.heap.size wD wE := by rw [hwE]; exact below_alloc _ _
    have sCE : Below wC.heap.size wC wE := hbD.trans (sDE.mono hbD.size)
    have SE : Hid (Sub wC wE) := sub_below sCE
    have BE : Hid (Below B2 w wE) := BC.out.trans (sCE.mono (by have := BC.out.size; rw [HB2.out] at this; exact this))
    have E10 : Hid (wE.cell? ⟨wD.heap.size, 0, none⟩ = some (.int .i64 px) ∧ wE.cell? ⟨wD.heap.size, 1, none⟩ = some (.int .i64 py)) := ⟨by rw [hwE]; exact World.cell?_alloc_new wD _ _ 0, by rw [hwE]; exact World.cell?_alloc_new wD _ _ 1⟩
    have C12 : Hid _ := ordered_any wE ax cx qm mm QM.out (by omega) (PM.out.sub SE.out) ASK.out.up.1 ASK.out.up.2.1
    generalize hB10 : wD.heap.size = B10 at *
    unfold encP
    clear C11 hbD hpx hfb sDE sCE
    go_wp2_with fail
    try rw [hB10]
    rw [← hwE]
    clear hwE hB10 hB8
    refine Calls.mono C12.out ?_
    rintro e wF ⟨rfl, dq, hdq⟩
    have sEF : Below wE.heap.size wE wF := by rw [hdq]; exact below_drewN _ _
    have SF : Hid (Sub wS wF) := ((SA.out.trans SC.out).trans SE.out).trans (sub_below sEF)
    have BF : Hid (Below B2 w wF) := BE.out.trans (sEF.mono (by have := BE.out.size; rw [HB2.out] at this; exact this))
    have PMF : Hid (PairsAt wF ax mm) := (PM.out.sub SE.out).under sEF
    have X8 : Hid (wF.cell? ⟨B8, 0, none⟩ = some (.int .i64 x0) ∧ wF.cell? ⟨B8, 1, none⟩ = some (.int .i64 y0)) := ⟨sub_below sEF _ _ (SE.out _ _ E8.out.1), sub_below sEF _ _ (SE.out _ _ E8.out.2)⟩
    have X10 : Hid (wF.cell? ⟨B10, 0, none⟩ = some (.int .i64 px) ∧ wF.cell? ⟨B10, 1, none⟩ = some (.int .i64 py)) := ⟨sub_below sEF _ _ E10.out.1, sub_below sEF _ _ E10.out.2⟩
    have KF : Hid (∀ w', Sub wF w' → w'.cell? ⟨B2, 0, none⟩ = some (.slice aL nL cL) ∧ w'.cell? ⟨B2, 1, none⟩ = some (.slice a0 n0 c0) ∧ w'.cell? ⟨B2, 2, none⟩ = some (.slice aH nH cH) ∧ w'.cell? ⟨B2, 3, none⟩ = some (.int .i64 m) ∧ w'.cell? ⟨B2, 4, none⟩ = some (.int .i64 r) ∧ w'.cell? ⟨B5, 0, none⟩ = some (.slice aS ks cs)) := fun w' h => KB.out w' (SF.out.trans h)
    clear C12 hdq sEF E8 E10 SE BE SC BC SA BA LA HA PM
    go_wp2_with fail
    go_loopw [12, 13] (fun av iv wx => ∃ i : Nat, i ≤ qm ∧ iv = .int .i64 i ∧ av = .bool (fine && (mm.take i).all (standsL hv)) ∧ Hid (Sub wF wx ∧ Below B2 w wx)) (fun _ iv _ => qm - (intOf iv).toNat)
    case atStart => exact ⟨0, Nat.zero_le _, rfl, by simp, Sub.refl _, BF.out⟩
    case round =>
      obtain ⟨i, hi, rfl, rfl, INV⟩ := hrel
      by_cases hlt : i < qm
      · have n1 : (i : Int) < (qm : Int) := by omega
        obtain ⟨⟨x, y⟩, hx⟩ : ∃ x, mm[i]? = some x := ⟨mm[i]'(by rw [QM.out]; exact hlt), List.getElem?_eq_getElem _⟩
        obtain ⟨b1, o1, rfl, c1, d1⟩ := PMF.out.sub INV.out.1 i _ hx
        have HX : Hid (mm[i]? = some (x, y)) := hx
        have HXT : Hid ((mm.take (i + 1)).all (standsL hv) = ((mm.take i).all (standsL hv) && standsL hv (x, y))) := by
          show _ = _
          rw [List.take_add_one, hx, Option.toList_some, List.all_append]
          simp
        have SS : Hid (∀ w', Sub wr.drew w' → w'.cell? ⟨B2, 2, none⟩ = some (.slice aH nH cH) ∧ w'.cell? ⟨b1, o1 + i * 2, none⟩ = some (.int .i64 x) ∧ w'.cell? ⟨b1, o1 + i * 2 + 1, none⟩ = some (.int .i64 y)) := fun w' h => ⟨(KF.out w' (INV.out.1.trans h)).2.2.1, h _ _ c1, h _ _ d1⟩
        have C13 : Hid _ := stands_any wr.drew aH cH nH hv (x, y) HH.out (by omega) (PH.out.sub ((SWS.out.trans SF.out).trans INV.out.1))
        obtain ⟨sb, hsb⟩ : ∃ sb, standsL hv (x, y) = sb := ⟨_, rfl⟩
        have HSB : Hid (standsL hv (x, y) = sb) := hsb
        rw [hsb] at C13
        unfold encP at C13
        dsimp only at C13
        obtain ⟨al, hal⟩ : ∃ al, (fine && (mm.take i).all (standsL hv)) = al := ⟨_, rfl⟩
        have HAL : Hid ((fine && (mm.take i).all (standsL hv)) = al) := hal
        have HAL2 : Hid ((fine && (mm.take (i + 1)).all (standsL hv)) = (al && sb)) := by show _ = _; rw [HXT.out, ← Bool.and_assoc, hal, hsb]
        rw [hal]
        clear hx hsb hal c1 d1 HXT
        rcases al
        · go_wp2_with fail
          refine wp_region_held_drew (S := fun w' => w'.cell? ⟨B2, 2, none⟩ = some (.slice aH nH cH) ∧ w'.cell? ⟨b1, o1 + i * 2, none⟩ = some (.int .i64 x) ∧ w'.cell? ⟨b1, o1 + i * 2 + 1, none⟩ = some (.int .i64 y)) (by kernel_rfl) ?_ (fun hHeld => ?_)
          · exact SS.out _ (Sub.refl _)
          refine wpAnyH_take (i := 0) (oi := { dst := some 71, op := Op.move (Operand.tmp 12), type := 4, pos := "outright.go:119", after := #[], guard := none }) (v := ?_) rfl (by kernel_rfl) (by kernel_rfl) (by kernel_rfl) (fun _ _ _ h => h) (Or.inl ⟨by rfl, ?_⟩) hHeld ?_
          rotate_left
          · (intro w hSw; (try dsimp only at hSw); go_simp; try with_reducible rfl)
          try simp only [Act.put, List.setIfInBounds_toArray, List.set_cons_zero, List.set_cons_succ]
          refine wpAnyH_take (i := 1) (oi := { dst := some 72, op := Op.move (Operand.tmp 71), type := 4, pos := "outright.go:119", after := #[{ on := 0, ground := Ground.data }], guard := none }) (v := ?_) rfl (by kernel_rfl) (by kernel_rfl) (by kernel_rfl) (fun _ _ _ h => h) (Or.inl ⟨by rfl, ?_⟩) hHeld ?_
          rotate_left
          · (intro w hSw; (try dsimp only at hSw); go_simp; try with_reducible rfl)
          try simp only [Act.put, List.setIfInBounds_toArray, List.set_cons_zero, List.set_cons_succ]
          refine wpAnyH_take (i := 2) (oi := { dst := some 73, op := Op.fieldAddr 25 (Operand.tmp 2) 2, type := 0, pos := "outright.go:119", after := #[{ on := 1, ground := Ground.guard }], guard := some (1, true) }) (v := undef) rfl (by kernel_rfl) (by kernel_rfl) (by kernel_rfl) (fun _ _ _ h => h) (Or.inr ⟨by rfl, rfl⟩) hHeld ?_
          try simp only [Act.put, List.setIfInBounds_toArray, List.set_cons_zero, List.set_cons_succ]
          refine wpAnyH_take (i := 3) (oi := { dst := some 74, op := Op.load 22 (Operand.tmp 73), type := 22, pos := "outright.go:119", after := #[{ on := 2, ground := Ground.data }, { on := 1, ground := Ground.guard }], guard := some (1, true) }) (v := undef) rfl (by kernel_rfl) (by kernel_rfl) (by kernel_rfl) (fun _ _ _ h => h) (Or.inr ⟨by rfl, rfl⟩) hHeld ?_
          try simp only [Act.put, List.setIfInBounds_toArray, List.set_cons_zero, List.set_cons_succ]
          refine wpAnyH_take (i := 4) (oi := { dst := some 75, op := Op.move (Operand.tmp 7), type := 22, pos := "outright.go:119", after := #[{ on := 1, ground := Ground.guard }], guard := some (1, true) }) (v := undef) rfl (by kernel_rfl) (by kernel_rfl) (by kernel_rfl) (fun _ _ _ h => h) (Or.inr ⟨by rfl, rfl⟩) hHeld ?_
          try simp only [Act.put, List.setIfInBounds_toArray, List.set_cons_zero, List.set_cons_succ]
          refine wpAnyH_take (i := 5) (oi := { dst := some 76, op := Op.move (Operand.tmp 13), type := 3, pos := "outright.go:119", after := #[{ on := 1, ground := Ground.guard }], guard := some (1, true) }) (v := undef) rfl (by kernel_rfl) (by kernel_rfl) (by kernel_rfl) (fun _ _ _ h => h) (Or.inr ⟨by rfl, rfl⟩) hHeld ?_
          try simp only [Act.put, List.setIfInBounds_toArray, List.set_cons_zero, List.set_cons_succ]
          refine wpAnyH_take (i := 6) (oi := { dst := some 77, op := Op.indexAddr 22 (Operand.tmp 75) (Operand.tmp 76), type := 0, pos := "outright.go:119", after := #[{ on := 4, ground := Ground.data }, { on := 5, ground := Ground.data }, { on := 1, ground := Ground.guard }], guard := some (1, true) }) (v := undef) rfl (by kernel_rfl) (by kernel_rfl) (by kernel_rfl) (fun _ _ _ h => h) (Or.inr ⟨by rfl, rfl⟩) hHeld ?_
          try simp only [Act.put, List.setIfInBounds_toArray, List.set_cons_zero, List.set_cons_succ]
          refine wpAnyH_take (i := 7) (oi := { dst := some 78, op := Op.load 33 (Operand.tmp 77), type := 33, pos := "outright.go:119", after := #[{ on := 6, ground := Ground.data }, { on := 1, ground := Ground.guard }], guard := some (1, true) }) (v := undef) rfl (by kernel_rfl) (by kernel_rfl) (by kernel_rfl) (fun _ _ _ h => h) (Or.inr ⟨by rfl, rfl⟩) hHeld ?_
          try simp only [Act.put, List.setIfInBounds_toArray, List.set_cons_zero, List.set_cons_succ]
          refine wpAnyH_take (i := 8) (oi := { dst := some 79, op := Op.call { callee := Callee.value (Operand.func 13), args := #[Operand.tmp 74, Operand.tmp 78], argTypes := #[22, 33] }, type := 4, pos := "outright.go:119", after := #[{ on := 3, ground := Ground.data }, { on := 7, ground := Ground.data }, { on := 1, ground := Ground.chain }, { on := 1, ground := Ground.guard }], guard := some (1, true) }) (v := undef) rfl (by kernel_rfl) (by kernel_rfl) (by kernel_rfl) (fun _ _ _ h => h) (Or.inr ⟨by rfl, rfl⟩) hHeld ?_
          try simp only [Act.put, List.setIfInBounds_toArray, List.set_cons_zero, List.set_cons_succ]
          refine wpAnyH_take (i := 9) (oi := { dst := some 80, op := Op.pick (Operand.tmp 72) (Operand.tmp 79) (Operand.const (Value.bool false)), type := 4, pos := "outright.go:119", after := #[{ on := 1, ground := Ground.data }, { on := 8, ground := Ground.data }], guard := none }) (v := ?_) rfl (by kernel_rfl) (by kernel_rfl) (by kernel_rfl) (fun _ _ _ h => h) (Or.inl ⟨by rfl, ?_⟩) hHeld ?_
          rotate_left
          · (intro w hSw; (try dsimp only at hSw); go_simp; try with_reducible rfl)
          try simp only [Act.put, List.setIfInBounds_toArray, List.set_cons_zero, List.set_cons_succ]
          refine wpAnyH_take (i := 10) (oi := { dst := some 12, op := Op.assign (Operand.tmp 80), type := 4, pos := "outright.go:119", after := #[{ on := 9, ground := Ground.data }, { on := 8, ground := Ground.chain }, { on := 0, ground := Ground.phase }, { on := 1, ground := Ground.phase }, { on := 2, ground := Ground.phase }, { on := 3, ground := Ground.phase }, { on := 4, ground := Ground.phase }, { on := 5, ground := Ground.phase }, { on := 6, ground := Ground.phase }, { on := 7, ground := Ground.phase }, { on := 8, ground := Ground.phase }, { on := 9, ground := Ground.phase }], guard := none }) (v := ?_) rfl (by kernel_rfl) (by kernel_rfl) (by kernel_rfl) (fun _ _ _ h => h) (Or.inl ⟨by rfl, ?_⟩) hHeld ?_
          rotate_left
          · (intro w hSw; (try dsimp only at hSw); go_simp; try with_reducible rfl)
          try simp only [Act.put, List.setIfInBounds_toArray, List.set_cons_zero, List.set_cons_succ]
          refine wpAnyH_done (by kernel_rfl) ?_ _
          have INV2 : Hid (Sub wF wr.drew ∧ Below B2 w wr.drew) := ⟨INV.out.1, ⟨INV.out.2.os, INV.out.2.tape, INV.out.2.output, INV.out.2.size, INV.out.2.block⟩⟩
          clear INV C13 SS
          go_wp2
          go_roundw
          case rel => exact ⟨i + 1, by omega, by go_num, by rw [HAL2.out]; rfl, INV2.out⟩
          case measure => simp [intOf]; omega
        · go_wp2_with fail
          refine wp_region_held_drew (S := fun w' => w'.cell? ⟨B2, 2, none⟩ = some (.slice aH nH cH) ∧ w'.cell? ⟨b1, o1 + i * 2, none⟩ = some (.int .i64 x) ∧ w'.cell? ⟨b1, o1 + i * 2 + 1, none⟩ = some (.int .i64 y)) (by kernel_rfl) ?_ (fun hHeld => ?_)
          · exact SS.out _ (Sub.refl _)
          refine wpAnyH_take (i := 0) (oi := { dst := some 71, op := Op.move (Operand.tmp 12), type := 4, pos := "outright.go:119", after := #[], guard := none }) (v := ?_) rfl (by kernel_rfl) (by kernel_rfl) (by kernel_rfl) (fun _ _ _ h => h) (Or.inl ⟨by rfl, ?_⟩) hHeld ?_
          rotate_left
          · (intro w hSw; (try dsimp only at hSw); go_simp; try with_reducible rfl)
          try simp only [Act.put, List.setIfInBounds_toArray, List.set_cons_zero, List.set_cons_succ]
          refine wpAnyH_take (i := 1) (oi := { dst := some 72, op := Op.move (Operand.tmp 71), type := 4, pos := "outright.go:119", after := #[{ on := 0, ground := Ground.data }], guard := none }) (v := ?_) rfl (by kernel_rfl) (by kernel_rfl) (by kernel_rfl) (fun _ _ _ h => h) (Or.inl ⟨by rfl, ?_⟩) hHeld ?_
          rotate_left
          · (intro w hSw; (try dsimp only at hSw); go_simp; try with_reducible rfl)
          try simp only [Act.put, List.setIfInBounds_toArray, List.set_cons_zero, List.set_cons_succ]
          refine wpAnyH_take (i := 2) (oi := { dst := some 73, op := Op.fieldAddr 25 (Operand.tmp 2) 2, type := 0, pos := "outright.go:119", after := #[{ on := 1, ground := Ground.guard }], guard := some (1, true) }) (v := ?_) rfl (by kernel_rfl) (by kernel_rfl) (by kernel_rfl) (fun _ _ _ h => h) (Or.inl ⟨by rfl, ?_⟩) hHeld ?_
          rotate_left
          · (intro w hSw; (try dsimp only at hSw); go_simp; try with_reducible rfl)
          try simp only [Act.put, List.setIfInBounds_toArray, List.set_cons_zero, List.set_cons_succ]
          refine wpAnyH_take (i := 3) (oi := { dst := some 74, op := Op.load 22 (Operand.tmp 73), type := 22, pos := "outright.go:119", after := #[{ on := 2, ground := Ground.data }, { on := 1, ground := Ground.guard }], guard := some (1, true) }) (v := ?_) rfl (by kernel_rfl) (by kernel_rfl) (by kernel_rfl) (fun _ _ _ h => h) (Or.inl ⟨by rfl, ?_⟩) hHeld ?_
          rotate_left
          · (intro w hSw; (try dsimp only at hSw); go_simp; try with_reducible rfl)
          try simp only [Act.put, List.setIfInBounds_toArray, List.set_cons_zero, List.set_cons_succ]
          refine wpAnyH_take (i := 4) (oi := { dst := some 75, op := Op.move (Operand.tmp 7), type := 22, pos := "outright.go:119", after := #[{ on := 1, ground := Ground.guard }], guard := some (1, true) }) (v := ?_) rfl (by kernel_rfl) (by kernel_rfl) (by kernel_rfl) (fun _ _ _ h => h) (Or.inl ⟨by rfl, ?_⟩) hHeld ?_
          rotate_left
          · (intro w hSw; (try dsimp only at hSw); go_simp; try with_reducible rfl)
          try simp only [Act.put, List.setIfInBounds_toArray, List.set_cons_zero, List.set_cons_succ]
          refine wpAnyH_take (i := 5) (oi := { dst := some 76, op := Op.move (Operand.tmp 13), type := 3, pos := "outright.go:119", after := #[{ on := 1, ground := Ground.guard }], guard := some (1, true) }) (v := ?_) rfl (by kernel_rfl) (by kernel_rfl) (by kernel_rfl) (fun _ _ _ h => h) (Or.inl ⟨by rfl, ?_⟩) hHeld ?_
          rotate_left
          · (intro w hSw; (try dsimp only at hSw); go_simp; try with_reducible rfl)
          try simp only [Act.put, List.setIfInBounds_toArray, List.set_cons_zero, List.set_cons_succ]
          refine wpAnyH_take (i := 6) (oi := { dst := some 77, op := Op.indexAddr 22 (Operand.tmp 75) (Operand.tmp 76), type := 0, pos := "outright.go:119", after := #[{ on := 4, ground := Ground.data }, { on := 5, ground := Ground.data }, { on := 1, ground := Ground.guard }], guard := some (1, true) }) (v := ?_) rfl (by kernel_rfl) (by kernel_rfl) (by kernel_rfl) (fun _ _ _ h => h) (Or.inl ⟨by rfl, ?_⟩) hHeld ?_
          rotate_left
          · (intro w hSw; (try dsimp only at hSw); go_simp; try with_reducible rfl)
          try simp only [Act.put, List.setIfInBounds_toArray, List.set_cons_zero, List.set_cons_succ]
          refine wpAnyH_take (i := 7) (oi := { dst := some 78, op := Op.load 33 (Operand.tmp 77), type := 33, pos := "outright.go:119", after := #[{ on := 6, ground := Ground.data }, { on := 1, ground := Ground.guard }], guard := some (1, true) }) (v := ?_) rfl (by kernel_rfl) (by kernel_rfl) (by kernel_rfl) (fun _ _ _ h => h) (Or.inl ⟨by rfl, ?_⟩) hHeld ?_
          rotate_left
          · (intro w hSw; (try dsimp only at hSw); go_simp; try with_reducible rfl)
          try simp only [Act.put, List.setIfInBounds_toArray, List.set_cons_zero, List.set_cons_succ]
          refine wpAnyH_ready (rs := [8]) (by kernel_rfl) (by simp) ?_
          refine AllReadyH.cons (o := { dst := some 79, op := Op.call { callee := Callee.value (Operand.func 13), args := #[Operand.tmp 74, Operand.tmp 78], argTypes := #[22, 33] }, type := 4, pos := "outright.go:119", after := #[{ on := 3, ground := Ground.data }, { on := 7, ground := Ground.data }, { on := 1, ground := Ground.chain }, { on := 1, ground := Ground.guard }], guard := some (1, true) }) rfl (fun K hK => ?_) AllReadyH.nil
          go_simp
          go_at_call 13
          refine Calls.mono C13.out ?_
          rintro e v1w ⟨rfl, hb⟩
          have INV2 : Hid (Sub wF v1w ∧ Below B2 w v1w) := ⟨fun _ _ h => sub_below hb _ _ (INV.out.1 _ _ h), (show Below B2 w wr.drew from ⟨INV.out.2.os, INV.out.2.tape, INV.out.2.output, INV.out.2.size, INV.out.2.block⟩).trans (hb.mono (by have := INV.out.2.size; rw [HB2.out] at this; exact this))⟩
          have SV : Hid (Sub wr.drew v1w) := sub_below hb
          clear C13 hb
          try go_wp2_with fail
          refine hK.out _ _ ?_ (fun hHeld_8 => ?_)
          · exact SS.out _ SV.out
          clear hK K
          try simp only [Act.put, List.setIfInBounds_toArray, List.set_cons_zero, List.set_cons_succ]
          refine wpAnyH_take (i := 9) (oi := { dst := some 80, op := Op.pick (Operand.tmp 72) (Operand.tmp 79) (Operand.const (Value.bool false)), type := 4, pos := "outright.go:119", after := #[{ on := 1, ground := Ground.data }, { on := 8, ground := Ground.data }], guard := none }) (v := ?_) rfl (by kernel_rfl) (by kernel_rfl) (by kernel_rfl) (fun _ _ _ h => h) (Or.inl ⟨by rfl, ?_⟩) hHeld_8 ?_
          rotate_left
          · (intro w hSw; (try dsimp only at hSw); go_simp; try with_reducible rfl)
          try simp only [Act.put, List.setIfInBounds_toArray, List.set_cons_zero, List.set_cons_succ]
          refine wpAnyH_take (i := 10) (oi := { dst := some 12, op := Op.assign (Operand.tmp 80), type := 4, pos := "outright.go:119", after := #[{ on := 9, ground := Ground.data }, { on := 8, ground := Ground.chain }, { on := 0, ground := Ground.phase }, { on := 1, ground := Ground.phase }, { on := 2, ground := Ground.phase }, { on := 3, ground := Ground.phase }, { on := 4, ground := Ground.phase }, { on := 5, ground := Ground.phase }, { on := 6, ground := Ground.phase }, { on := 7, ground := Ground.phase }, { on := 8, ground := Ground.phase }, { on := 9, ground := Ground.phase }], guard := none }) (v := ?_) rfl (by kernel_rfl) (by kernel_rfl) (by kernel_rfl) (fun _ _ _ h => h) (Or.inl ⟨by rfl, ?_⟩) hHeld_8 ?_
          rotate_left
          · (intro w hSw; (try dsimp only at hSw); go_simp; try with_reducible rfl)
          try simp only [Act.put, List.setIfInBounds_toArray, List.set_cons_zero, List.set_cons_succ]
          refine wpAnyH_done (by kernel_rfl) ?_ _
          clear INV SS SV
          go_wp2
          go_roundw
          case rel => exact ⟨i + 1, by omega, by go_num, by rw [HAL2.out]; simp, INV2.out⟩
          case measure => simp [intOf]; omega
      · have n1 : ¬ (i : Int) < (qm : Int) := by omega
        have h3 := three (hv := hv) WB.out DD.out.wl ASK.out
        rw [HFB.out] at h3
        have HAA : Hid (mm.take i = mm) := List.take_of_length_le (by rw [QM.out]; omega)
        rw [HAA.out]
        obtain ⟨al, hal⟩ : ∃ al, (fine && mm.all (standsL hv)) = al := ⟨_, rfl⟩
        rw [hal] at h3 ⊢
        have HAL : Hid ((fine && mm.all (standsL hv)) = al) := hal
        subst h3
        obtain ⟨wG, hwG⟩ : ∃ wG, wG = wr := ⟨_, rfl⟩
        subst hwG
        clear hal hi hlt
        rcases ASK.out with ⟨hfine, hmm0, hfd⟩ | ⟨hfine, hz, hfn, mn, hN, hT⟩
        · subst hfine
          have hal0 : al = false := by rw [← HAL.out]; rfl
          subst hal0
          have hq0 : qm = 0 := by rw [← QM.out, hmm0]; rfl
          subst hq0
          obtain ⟨k0, k1, k2, k3, k4, k5⟩ := KF.out wG INV.out.1
          go_wp2_with fail
          clear k0 k1 k2 k3 k4 k5 n1
          go_loopw [14] (fun iv wx => ∃ j : Nat, j ≤ nL ∧ iv = .int .i64 j ∧ Hid (Sub wF wx ∧ Below B2 w wx ∧ ∀ q ∈ l.take j, badM sl (isV m r) q = false)) (fun iv _ => nL - (intOf iv).toNat)
          case atStart => exact ⟨0, Nat.zero_le _, rfl, INV.out.1, INV.out.2, fun q hq => by simp at hq⟩
          case round =>
            clear INV
            obtain ⟨j, hj, rfl, INV⟩ := hrel
            obtain ⟨k0, k1, k2, k3, k4, k5⟩ := KF.out wr INV.out.1
            by_cases hlt : j < nL
            · have n1 : (j : Int) < (nL : Int) := by omega
              obtain ⟨⟨x, y⟩, hx⟩ : ∃ x, l[j]? = some x := ⟨l[j]'(by rw [HL.out]; exact hlt), List.getElem?_eq_getElem _⟩
              obtain ⟨b1, o1, rfl, c1, d1⟩ := PL.out.sub ((SWS.out.trans SF.out).trans INV.out.1) j _ hx
              have HX : Hid (l[j]? = some (x, y)) := hx
              have f1 : IntKind.i64.wrap ((j : Int) + 1) = ((j + 1 : Nat) : Int) := by rw [IntWalk.i64_in _ (by omega)]; omega
              have f2 : j + 1 - j = 1 := by omega
              have f3 : j + 1 ≤ cL := by omega
              have f4 : j ≤ j + 1 := by omega
              have CX : Hid _ := CAR.out wr (some ⟨b1, o1 + j * 2, none⟩) 1 (cL - j) [(x, y)] (SF.out.trans INV.out.1) rfl (by omega) (fun q hq => by simp at hq; rw [hq]; exact List.mem_of_getElem? hx) (pairs_one c1 d1)
              clear hx
              go_wp2_with fail
              refine Calls.mono CX.out ?_
              intro e wH hcar
              obtain ⟨hbH, ax2, cx2, mm2, ⟨x2, y2⟩, may, rfl, hPm2, hlm2, hask2⟩ := carryU hcar
              have BH : Hid (Below B2 w (wH.alloc (.cells #[.int .i64 x2, .int .i64 y2] 33))) := (INV.out.2.1.trans (hbH.mono (by have := INV.out.2.1.size; rw [HB2.out] at this; exact this))).alloc (by have := INV.out.2.1.size; have := hbH.size; have := HB2.out; omega) _
              have SH : Hid (Sub wF (wH.alloc (.cells #[.int .i64 x2, .int .i64 y2] 33))) := (INV.out.1.trans (sub_below hbH)).trans (sub_below (below_alloc _ _))
              unfold encP
              clear CX hcar hbH hPm2 hlm2 k0 k1 k2 k3 k4 k5
              rcases hask2 with ⟨rfl, _, hf2⟩ | ⟨rfl, _, hf2, _⟩
              · have hbt : badM sl (isV m r) (x, y) = true := by
                  rw [find_one] at hf2
                  split at hf2
                  · assumption
                  · cases hf2
                have hfe : l.find? (badM sl (isV m r)) = some (x, y) := find_at HX.out hbt INV.out.2.2
                rw [hfd] at hfe
                obtain ⟨rfl, rfl⟩ := Prod.mk.inj (Option.some.inj hfe)
                obtain ⟨wI, hwI⟩ : ∃ wI, wI = wH.alloc (.cells #[.int .i64 x2, .int .i64 y2] 33) := ⟨_, rfl⟩
                rw [← hwI] at BH SH
                have ZZ : Hid (∀ w', Sub wI w' → w'.cell? ⟨B8, 0, none⟩ = some (.int .i64 x0) ∧ w'.cell? ⟨B8, 1, none⟩ = some (.int .i64 y0) ∧ w'.cell? ⟨B2, 0, none⟩ = some (.slice (some ⟨b1, o1, none⟩) nL cL) ∧ w'.cell? ⟨b1, o1 + j * 2, none⟩ = some (.int .i64 x0) ∧ w'.cell? ⟨b1, o1 + j * 2 + 1, none⟩ = some (.int .i64 y0)) := fun w' h => by
                  have s := SH.out.trans h
                  obtain ⟨bq, oq, eq, cq, dq'⟩ := PL.out.sub ((SWS.out.trans SF.out).trans s) j _ HX.out
                  cases eq
                  exact ⟨s _ _ X8.out.1, s _ _ X8.out.2, (KF.out w' s).1, cq, dq'⟩
                clear hfe hbt hf2 c1 d1
                go_wp2_with fail
                rw [← hwI]
                clear hwI
                refine wp_region_held_drew (S := fun w' => w'.cell? ⟨B8, 0, none⟩ = some (.int .i64 x0) ∧ w'.cell? ⟨B8, 1, none⟩ = some (.int .i64 y0) ∧ w'.cell? ⟨B2, 0, none⟩ = some (.slice (some ⟨b1, o1, none⟩) nL cL) ∧ w'.cell? ⟨b1, o1 + j * 2, none⟩ = some (.int .i64 x0) ∧ w'.cell? ⟨b1, o1 + j * 2 + 1, none⟩ = some (.int .i64 y0)) (by kernel_rfl) ?_ (fun hHeld => ?_)
                · exact ZZ.out _ (fun _ _ h => h)
                refine wpAnyH_take (i := 0) (oi := { dst := some 134, op := Op.move (Operand.tmp 9), type := 4, pos := "outright.go:128", after := #[], guard := none }) (v := ?_) rfl (by kernel_rfl) (by kernel_rfl) (by kernel_rfl) (fun _ _ _ h => h) (Or.inl ⟨by rfl, ?_⟩) hHeld ?_
                rotate_left
                · (intro w hSw; (try dsimp only at hSw); go_simp; try with_reducible rfl)
                try simp only [Act.put, List.setIfInBounds_toArray, List.set_cons_zero, List.set_cons_succ]
                refine wpAnyH_take (i := 1) (oi := { dst := some 135, op := Op.move (Operand.tmp 134), type := 4, pos := "outright.go:128", after := #[{ on := 0, ground := Ground.data }], guard := none }) (v := ?_) rfl (by kernel_rfl) (by kernel_rfl) (by kernel_rfl) (fun _ _ _ h => h) (Or.inl ⟨by rfl, ?_⟩) hHeld ?_
                rotate_left
                · (intro w hSw; (try dsimp only at hSw); go_simp; try with_reducible rfl)
                try simp only [Act.put, List.setIfInBounds_toArray, List.set_cons_zero, List.set_cons_succ]
                refine wpAnyH_take (i := 2) (oi := { dst := some 136, op := Op.load 33 (Operand.tmp 8), type := 33, pos := "outright.go:128", after := #[{ on := 1, ground := Ground.guard }], guard := some (1, false) }) (v := ?_) rfl (by kernel_rfl) (by kernel_rfl) (by kernel_rfl) (fun _ _ _ h => h) (Or.inl ⟨by rfl, ?_⟩) hHeld ?_
                rotate_left
                · (intro w hSw; (try dsimp only at hSw); go_simp; try with_reducible rfl)
                try simp only [Act.put, List.setIfInBounds_toArray, List.set_cons_zero, List.set_cons_succ]
                refine wpAnyH_take (i := 3) (oi := { dst := some 137, op := Op.fieldAddr 25 (Operand.tmp 2) 0, type := 0, pos := "outright.go:128", after := #[{ on := 1, ground := Ground.guard }], guard := some (1, false) }) (v := ?_) rfl (by kernel_rfl) (by kernel_rfl) (by kernel_rfl) (fun _ _ _ h => h) (Or.inl ⟨by rfl, ?_⟩) hHeld ?_
                rotate_left
                · (intro w hSw; (try dsimp only at hSw); go_simp; try with_reducible rfl)
                try simp only [Act.put, List.setIfInBounds_toArray, List.set_cons_zero, List.set_cons_succ]
                refine wpAnyH_take (i := 4) (oi := { dst := some 138, op := Op.load 22 (Operand.tmp 137), type := 22, pos := "outright.go:128", after := #[{ on := 3, ground := Ground.data }, { on := 1, ground := Ground.guard }], guard := some (1, false) }) (v := ?_) rfl (by kernel_rfl) (by kernel_rfl) (by kernel_rfl) (fun _ _ _ h => h) (Or.inl ⟨by rfl, ?_⟩) hHeld ?_
                rotate_left
                · (intro w hSw; (try dsimp only at hSw); go_simp; try with_reducible rfl)
                try simp only [Act.put, List.setIfInBounds_toArray, List.set_cons_zero, List.set_cons_succ]
                refine wpAnyH_take (i := 5) (oi := { dst := some 139, op := Op.move (Operand.tmp 14), type := 3, pos := "outright.go:128", after := #[{ on := 1, ground := Ground.guard }], guard := some (1, false) }) (v := ?_) rfl (by kernel_rfl) (by kernel_rfl) (by kernel_rfl) (fun _ _ _ h => h) (Or.inl ⟨by rfl, ?_⟩) hHeld ?_
                rotate_left
                · (intro w hSw; (try dsimp only at hSw); go_simp; try with_reducible rfl)
                try simp only [Act.put, List.setIfInBounds_toArray, List.set_cons_zero, List.set_cons_succ]
                refine wpAnyH_take (i := 6) (oi := { dst := some 140, op := Op.indexAddr 22 (Operand.tmp 138) (Operand.tmp 139), type := 0, pos := "outright.go:128", after := #[{ on := 4, ground := Ground.data }, { on := 5, ground := Ground.data }, { on := 1, ground := Ground.guard }], guard := some (1, false) }) (v := ?_) rfl (by kernel_rfl) (by kernel_rfl) (by kernel_rfl) (fun _ _ _ h => h) (Or.inl ⟨by rfl, ?_⟩) hHeld ?_
                rotate_left
                · (intro w hSw; (try dsimp only at hSw); go_simp; try with_reducible rfl)
                try simp only [Act.put, List.setIfInBounds_toArray, List.set_cons_zero, List.set_cons_succ]
                refine wpAnyH_take (i := 7) (oi := { dst := some 141, op := Op.load 33 (Operand.tmp 140), type := 33, pos := "outright.go:128", after := #[{ on := 6, ground := Ground.data }, { on := 1, ground := Ground.guard }], guard := some (1, false) }) (v := ?_) rfl (by kernel_rfl) (by kernel_rfl) (by kernel_rfl) (fun _ _ _ h => h) (Or.inl ⟨by rfl, ?_⟩) hHeld ?_
                rotate_left
                · (intro w hSw; (try dsimp only at hSw); go_simp; try with_reducible rfl)
                try simp only [Act.put, List.setIfInBounds_toArray, List.set_cons_zero, List.set_cons_succ]
                refine wpAnyH_take (i := 8) (oi := { dst := some 142, op := Op.binOp BinOp.neq 33 (Operand.tmp 136) (Operand.tmp 141) 33, type := 4, pos := "outright.go:128", after := #[{ on := 2, ground := Ground.data }, { on := 7, ground := Ground.data }, { on := 1, ground := Ground.guard }], guard := some (1, false) }) (v := ?_) rfl (by kernel_rfl) (by kernel_rfl) (by kernel_rfl) (fun _ _ _ h => h) (Or.inl ⟨by rfl, ?_⟩) hHeld ?_
                rotate_left
                · (intro w hSw; (try dsimp only at hSw); go_simp; try with_reducible rfl)
                try simp only [Act.put, List.setIfInBounds_toArray, List.set_cons_zero, List.set_cons_succ]
                refine wpAnyH_take (i := 9) (oi := { dst := some 143, op := Op.pick (Operand.tmp 135) (Operand.const (Value.bool true)) (Operand.tmp 142), type := 4, pos := "outright.go:128", after := #[{ on := 1, ground := Ground.data }, { on := 8, ground := Ground.data }], guard := none }) (v := ?_) rfl (by kernel_rfl) (by kernel_rfl) (by kernel_rfl) (fun _ _ _ h => h) (Or.inl ⟨by rfl, ?_⟩) hHeld ?_
                rotate_left
                · (intro w hSw; (try dsimp only at hSw); go_simp; try with_reducible rfl)
                try simp only [Act.put, List.setIfInBounds_toArray, List.set_cons_zero, List.set_cons_succ]
                refine wpAnyH_done (by kernel_rfl) ?_ _
                have INV3 : Hid (Sub wF wI.drew ∧ Below B2 w wI.drew) := ⟨SH.out, ⟨BH.out.os, BH.out.tape, BH.out.output, BH.out.size, BH.out.block⟩⟩
                obtain ⟨wJ, hwJ⟩ : ∃ wJ, wJ = wI.drew := ⟨_, rfl⟩
                rw [← hwJ] at INV3
                clear INV ZZ BH SH hj hlt n1 f1 f2 f3 f4
                go_wp2_with fail
                rw [← hwJ]
                clear hwJ
                go_loopw [19] (fun iv wx => ∃ j : Nat, j ≤ nL ∧ iv = .int .i64 j ∧ Hid (Sub wF wx ∧ Below B2 w wx ∧ ∀ q ∈ l.take j, badH sl (isV m r) hv q = false)) (fun iv _ => nL - (intOf iv).toNat)
                case atStart => exact ⟨0, Nat.zero_le _, rfl, INV3.out.1, INV3.out.2, fun q hq => by simp at hq⟩
                case round =>
                  clear INV3
                  obtain ⟨j, hj, rfl, INV⟩ := hrel
                  obtain ⟨k0, k1, k2, k3, k4, k5⟩ := KF.out wr INV.out.1
                  by_cases hlt : j < nL
                  · have n1 : (j : Int) < (nL : Int) := by omega
                    obtain ⟨⟨x, y⟩, hx⟩ : ∃ x, l[j]? = some x := ⟨l[j]'(by rw [HL.out]; exact hlt), List.getElem?_eq_getElem _⟩
                    obtain ⟨b3, o3, eaL, c1, d1⟩ := PL.out.sub ((SWS.out.trans SF.out).trans INV.out.1) j _ hx
                    obtain ⟨rfl, rfl⟩ : b1 = b3 ∧ o1 = o3 := by cases eaL; exact ⟨rfl, rfl⟩
                    have HX : Hid (l[j]? = some (x, y)) := hx
                    have f1 : IntKind.i64.wrap ((j : Int) + 1) = ((j + 1 : Nat) : Int) := by rw [IntWalk.i64_in _ (by omega)]; omega
                    have f2 : j + 1 - j = 1 := by omega
                    have f3 : j + 1 ≤ cL := by omega
                    have f4 : j ≤ j + 1 := by omega
                    have f5 : ((0 : Int) ≤ (j : Int) + 1 ∧ (j : Int) + 1 ≤ (cL : Int)) = True := eq_true ⟨by omega, by omega⟩
                    have f6 : (cL = j) = False := eq_false (by omega)
                    have SS : Hid (∀ w', Sub wr w' → w'.cell? ⟨B2, 0, none⟩ = some (.slice (some ⟨b1, o1, none⟩) nL cL) ∧ w'.cell? ⟨B2, 1, none⟩ = some (.slice a0 n0 c0) ∧ w'.cell? ⟨B2, 2, none⟩ = some (.slice aH nH cH) ∧ w'.cell? ⟨B2, 3, none⟩ = some (.int .i64 m) ∧ w'.cell? ⟨B2, 4, none⟩ = some (.int .i64 r) ∧ w'.cell? ⟨B5, 0, none⟩ = some (.slice aS ks cs)) := fun w' h => KF.out w' (INV.out.1.trans h)
                    have SX_0 : Hid (Sub wr wr.drew) := fun _ _ h => h
                    have BX_0 : Hid (Below B2 w wr.drew) := ⟨INV.out.2.1.os, INV.out.2.1.tape, INV.out.2.1.output, INV.out.2.1.size, INV.out.2.1.block⟩
                    have LX_0 : Hid (wr.heap.size ≤ wr.drew.heap.size) := Nat.le_refl _
                    have BXG : Hid (∀ W, Sub wr W → Calls Tryz.prog 11 #[.slice (some ⟨b1, o1 + j * 2, none⟩) 1 (cL - j), .agg #[.slice aS ks cs], .func (.func 10) #[.agg #[.slice (some ⟨b1, o1, none⟩) nL cL, .slice a0 n0 c0, .slice aH nH cH, .int .i64 m, .int .i64 r]] #[], .slice aH nH cH] W fun e w' => BreachIs W w' e sl (isV m r) [(x, y)] hv) := fun W hW => BRE.out W (some ⟨b1, o1 + j * 2, none⟩) 1 (cL - j) [(x, y)] aH nH cH hv ((SF.out.trans INV.out.1).trans hW) rfl (by omega) (fun q hq => by simp at hq; rw [hq]; exact List.mem_of_getElem? hx) (pairs_one (hW _ _ c1) (hW _ _ d1)) HH.out (by omega) DD.out.wh (PH.out.sub (((SWS.out.trans SF.out).trans INV.out.1).trans hW))
                    rcases hbb : badH sl (isV m r) hv (x, y)
                    · have HBB : Hid (badH sl (isV m r) hv (x, y) = false) := hbb
                      have BX : Hid (∀ W, Sub wr W → Calls Tryz.prog 11 #[.slice (some ⟨b1, o1 + j * 2, none⟩) 1 (cL - j), .agg #[.slice aS ks cs], .func (.func 10) #[.agg #[.slice (some ⟨b1, o1, none⟩) nL cL, .slice a0 n0 c0, .slice aH nH cH, .int .i64 m, .int .i64 r]] #[], .slice aH nH cH] W fun e w' => e = .returned (.tuple #[.agg #[.int .i64 0, .int .i64 0], .bool false]) ∧ Below W.heap.size W w') := fun W hW => (BXG.out W hW).mono fun e w' h => by
                        obtain ⟨h1, h2⟩ := h
                        rw [find_one, hbb] at h1
                        exact ⟨h1, h2⟩
                      clear hx hbb BXG c1 d1
                      go_wp2_with fail
                      clear k0 k1 k2 k3 k4 k5
                      refine wp_region_held_drew (S := fun w' => w'.cell? ⟨B2, 0, none⟩ = some (.slice (some ⟨b1, o1, none⟩) nL cL) ∧ w'.cell? ⟨B2, 1, none⟩ = some (.slice a0 n0 c0) ∧ w'.cell? ⟨B2, 2, none⟩ = some (.slice aH nH cH) ∧ w'.cell? ⟨B2, 3, none⟩ = some (.int .i64 m) ∧ w'.cell? ⟨B2, 4, none⟩ = some (.int .i64 r) ∧ w'.cell? ⟨B5, 0, none⟩ = some (.slice aS ks cs)) (by kernel_rfl) ?_ (fun hHeld => ?_)
                      · exact SS.out _ (fun _ _ h => h)
                      refine wpAnyH_take (i := 0) (oi := { dst := some 152, op := Op.fieldAddr 25 (Operand.tmp 2) 0, type := 0, pos := "outright.go:135", after := #[], guard := none }) (v := ?_) rfl (by kernel_rfl) (by kernel_rfl) (by kernel_rfl) (fun _ _ _ h => h) (Or.inl ⟨by rfl, ?_⟩) hHeld ?_
                      rotate_left
                      · (intro w hSw; (try dsimp only at hSw); go_simp; try with_reducible rfl)
                      try simp only [Act.put, List.setIfInBounds_toArray, List.set_cons_zero, List.set_cons_succ]
                      refine wpAnyH_take (i := 1) (oi := { dst := some 153, op := Op.load 22 (Operand.tmp 152), type := 22, pos := "outright.go:135", after := #[{ on := 0, ground := Ground.data }], guard := none }) (v := ?_) rfl (by kernel_rfl) (by kernel_rfl) (by kernel_rfl) (fun _ _ _ h => h) (Or.inl ⟨by rfl, ?_⟩) hHeld ?_
                      rotate_left
                      · (intro w hSw; (try dsimp only at hSw); go_simp; try with_reducible rfl)
                      try simp only [Act.put, List.setIfInBounds_toArray, List.set_cons_zero, List.set_cons_succ]
                      refine wpAnyH_take (i := 2) (oi := { dst := some 154, op := Op.move (Operand.tmp 19), type := 3, pos := "outright.go:135", after := #[], guard := none }) (v := ?_) rfl (by kernel_rfl) (by kernel_rfl) (by kernel_rfl) (fun _ _ _ h => h) (Or.inl ⟨by rfl, ?_⟩) hHeld ?_
                      rotate_left
                      · (intro w hSw; (try dsimp only at hSw); go_simp; try with_reducible rfl)
                      try simp only [Act.put, List.setIfInBounds_toArray, List.set_cons_zero, List.set_cons_succ]
                      refine wpAnyH_take (i := 3) (oi := { dst := some 155, op := Op.move (Operand.tmp 19), type := 3, pos := "outright.go:135", after := #[], guard := none }) (v := ?_) rfl (by kernel_rfl) (by kernel_rfl) (by kernel_rfl) (fun _ _ _ h => h) (Or.inl ⟨by rfl, ?_⟩) hHeld ?_
                      rotate_left
                      · (intro w hSw; (try dsimp only at hSw); go_simp; try with_reducible rfl)
                      try simp only [Act.put, List.setIfInBounds_toArray, List.set_cons_zero, List.set_cons_succ]
                      refine wpAnyH_take (i := 4) (oi := { dst := some 156, op := Op.binOp BinOp.add 3 (Operand.tmp 155) (Operand.const (Value.int IntKind.i64 1)) 3, type := 3, pos := "outright.go:135", after := #[{ on := 3, ground := Ground.data }], guard := none }) (v := ?_) rfl (by kernel_rfl) (by kernel_rfl) (by kernel_rfl) (fun _ _ _ h => h) (Or.inl ⟨by rfl, ?_⟩) hHeld ?_
                      rotate_left
                      · (intro w hSw; (try dsimp only at hSw); go_simp; try with_reducible rfl)
                      try simp only [Act.put, List.setIfInBounds_toArray, List.set_cons_zero, List.set_cons_succ]
                      refine wpAnyH_take (i := 5) (oi := { dst := some 157, op := Op.slice 22 (Operand.tmp 153) (some (Operand.tmp 154)) (some (Operand.tmp 156)) none, type := 22, pos := "outright.go:135", after := #[{ on := 1, ground := Ground.data }, { on := 2, ground := Ground.data }, { on := 4, ground := Ground.data }], guard := none }) (v := ?_) rfl (by kernel_rfl) (by kernel_rfl) (by kernel_rfl) (fun _ _ _ h => h) (Or.inl ⟨by rfl, ?_⟩) hHeld ?_
                      rotate_left
                      · (intro w hSw; (try dsimp only at hSw); go_simp; try with_reducible rfl)
                      try simp only [Act.put, List.setIfInBounds_toArray, List.set_cons_zero, List.set_cons_succ]
                      refine wpAnyH_take (i := 6) (oi := { dst := some 158, op := Op.load 27 (Operand.tmp 5), type := 27, pos := "outright.go:135", after := #[], guard := none }) (v := ?_) rfl (by kernel_rfl) (by kernel_rfl) (by kernel_rfl) (fun _ _ _ h => h) (Or.inl ⟨by rfl, ?_⟩) hHeld ?_
                      rotate_left
                      · (intro w hSw; (try dsimp only at hSw); go_simp; try with_reducible rfl)
                      try simp only [Act.put, List.setIfInBounds_toArray, List.set_cons_zero, List.set_cons_succ]
                      refine wpAnyH_take (i := 7) (oi := { dst := some 159, op := Op.load 25 (Operand.tmp 2), type := 25, pos := "outright.go:135", after := #[], guard := none }) (v := ?_) rfl (by kernel_rfl) (by kernel_rfl) (by kernel_rfl) (fun _ _ _ h => h) (Or.inl ⟨by rfl, ?_⟩) hHeld ?_
                      rotate_left
                      · (intro w hSw; (try dsimp only at hSw); go_simp; try with_reducible rfl)
                      try simp only [Act.put, List.setIfInBounds_toArray, List.set_cons_zero, List.set_cons_succ]
                      refine wpAnyH_take (i := 8) (oi := { dst := some 160, op := Op.makeFunc (Fn.func 10) #[Operand.tmp 159] #[], type := 36, pos := "outright.go:135", after := #[{ on := 7, ground := Ground.data }], guard := none }) (v := ?_) rfl (by kernel_rfl) (by kernel_rfl) (by kernel_rfl) (fun _ _ _ h => h) (Or.inl ⟨by rfl, ?_⟩) hHeld ?_
                      rotate_left
                      · (intro w hSw; (try dsimp only at hSw); go_simp; try with_reducible rfl)
                      try simp only [Act.put, List.setIfInBounds_toArray, List.set_cons_zero, List.set_cons_succ]
                      refine wpAnyH_take (i := 9) (oi := { dst := some 161, op := Op.fieldAddr 25 (Operand.tmp 2) 2, type := 0, pos := "outright.go:135", after := #[], guard := none }) (v := ?_) rfl (by kernel_rfl) (by kernel_rfl) (by kernel_rfl) (fun _ _ _ h => h) (Or.inl ⟨by rfl, ?_⟩) hHeld ?_
                      rotate_left
                      · (intro w hSw; (try dsimp only at hSw); go_simp; try with_reducible rfl)
                      try simp only [Act.put, List.setIfInBounds_toArray, List.set_cons_zero, List.set_cons_succ]
                      refine wpAnyH_take (i := 10) (oi := { dst := some 162, op := Op.load 22 (Operand.tmp 161), type := 22, pos := "outright.go:135", after := #[{ on := 9, ground := Ground.data }], guard := none }) (v := ?_) rfl (by kernel_rfl) (by kernel_rfl) (by kernel_rfl) (fun _ _ _ h => h) (Or.inl ⟨by rfl, ?_⟩) hHeld ?_
                      rotate_left
                      · (intro w hSw; (try dsimp only at hSw); go_simp; try with_reducible rfl)
                      try simp only [Act.put, List.setIfInBounds_toArray, List.set_cons_zero, List.set_cons_succ]
                      refine wpAnyH_ready (rs := [11, 15]) (by kernel_rfl) (by simp) ?_
                      refine AllReadyH.cons (o := { dst := some 163, op := Op.call { callee := Callee.value (Operand.func 11), args := #[Operand.tmp 157, Operand.tmp 158, Operand.tmp 160, Operand.tmp 162], argTypes := #[22, 27, 36, 22] }, type := 37, pos := "outright.go:135", after := #[{ on := 5, ground := Ground.data }, { on := 6, ground := Ground.data }, { on := 8, ground := Ground.data }, { on := 10, ground := Ground.data }], guard := none }) rfl (fun K hK => ?_) (AllReadyH.cons (o := { dst := some 20, op := Op.alloc 33, type := 0, pos := "outright.go:135", after := #[], guard := none }) rfl (fun K hK => ?_) AllReadyH.nil)
                      · have CN : Hid _ := BX.out wr.drew SX_0.out
                        go_simp
                        go_at_call 11
                        refine Calls.mono CN.out ?_
                        rintro e u11 ⟨rfl, hb⟩
                        have SX_u11 : Hid (Sub wr u11) := SX_0.out.trans (sub_below hb)
                        have BX_u11 : Hid (Below B2 w u11) := BX_0.out.trans (hb.mono (by have := BX_0.out.size; rw [HB2.out] at this; exact this))
                        have LX_u11 : Hid (wr.heap.size ≤ u11.heap.size) := Nat.le_trans LX_0.out hb.size
                        clear CN hb
                        try go_wp2_with fail
                        refine hK.out _ _ ?_ (fun hHeld_11 => ?_)
                        · exact SS.out _ SX_u11.out
                        clear hK K
                        try simp only [Act.put, List.setIfInBounds_toArray, List.set_cons_zero, List.set_cons_succ]
                        refine wpAnyH_take (i := 12) (oi := { dst := some 151, op := Op.move (Operand.tmp 163), type := 37, pos := "outright.go:135", after := #[{ on := 11, ground := Ground.data }], guard := none }) (v := ?_) rfl (by kernel_rfl) (by kernel_rfl) (by kernel_rfl) (fun _ _ _ h => h) (Or.inl ⟨by rfl, ?_⟩) hHeld_11 ?_
                        rotate_left
                        · (intro w hSw; (try dsimp only at hSw); go_simp; try with_reducible rfl)
                        try simp only [Act.put, List.setIfInBounds_toArray, List.set_cons_zero, List.set_cons_succ]
                        refine wpAnyH_take (i := 13) (oi := { dst := some 164, op := Op.extract (Operand.tmp 151) 0, type := 33, pos := "outright.go:135", after := #[{ on := 12, ground := Ground.data }], guard := none }) (v := ?_) rfl (by kernel_rfl) (by kernel_rfl) (by kernel_rfl) (fun _ _ _ h => h) (Or.inl ⟨by rfl, ?_⟩) hHeld_11 ?_
                        rotate_left
                        · (intro w hSw; (try dsimp only at hSw); go_simp; try with_reducible rfl)
                        try simp only [Act.put, List.setIfInBounds_toArray, List.set_cons_zero, List.set_cons_succ]
                        refine wpAnyH_take (i := 14) (oi := { dst := some 165, op := Op.extract (Operand.tmp 151) 1, type := 4, pos := "outright.go:135", after := #[{ on := 12, ground := Ground.data }, { on := 16, ground := Ground.gcOnly Departure.lateStores }], guard := none }) (v := ?_) rfl (by kernel_rfl) (by kernel_rfl) (by kernel_rfl) (fun _ _ _ h => h) (Or.inl ⟨by rfl, ?_⟩) hHeld_11 ?_
                        rotate_left
                        · (intro w hSw; (try dsimp only at hSw); go_simp; try with_reducible rfl)
                        try simp only [Act.put, List.setIfInBounds_toArray, List.set_cons_zero, List.set_cons_succ]
                        refine wpAnyH_ready (rs := [15]) (by kernel_rfl) (by simp) ?_
                        refine AllReadyH.cons (o := { dst := some 20, op := Op.alloc 33, type := 0, pos := "outright.go:135", after := #[], guard := none }) rfl (fun K hK => ?_) AllReadyH.nil
                        obtain ⟨u1115, hnw⟩ : ∃ v, v = u11.alloc (.cells #[.int .i64 0, .int .i64 0] 33) := ⟨_, rfl⟩
                        have bnw : Below u11.heap.size u11 u1115 := by rw [hnw]; exact below_alloc _ _
                        have SX_u1115 : Hid (Sub wr u1115) := SX_u11.out.trans (sub_below bnw)
                        have BX_u1115 : Hid (Below B2 w u1115) := BX_u11.out.trans ((show Below u11.heap.size u11 u1115 from ⟨bnw.os, bnw.tape, bnw.output, bnw.size, bnw.block⟩).mono (by have := BX_u11.out.size; rw [HB2.out] at this; exact this))
                        have HX_u11150 : Hid (u1115.heap[u11.heap.size]? = some (.cells #[.int .i64 0, .int .i64 0] 33 (0, 0))) := by rw [hnw]; exact World.alloc_heap_new u11 (.cells #[.int .i64 0, .int .i64 0] 33)
                        have LX_u1115 : Hid (wr.heap.size ≤ u1115.heap.size) := Nat.le_trans LX_u11.out bnw.size
                        have LB20 : Hid (wr.heap.size ≤ u11.heap.size) := LX_u11.out
                        go_simp
                        try rw [← hnw]
                        clear bnw hnw
                        obtain ⟨B20, hB20⟩ : ∃ B, u11.heap.size = B := ⟨_, rfl⟩
                        rw [hB20] at HX_u11150 ⊢
                        have HX_u1115 : Hid (u1115.heap[B20]? = some (.cells #[.int .i64 0, .int .i64 0] 33 (0, 0))) := HX_u11150.out
                        have LB : Hid (wr.heap.size ≤ B20) := by show wr.heap.size ≤ B20; rw [← hB20]; exact LB20.out
                        clear hB20 HX_u11150 LB20
                        try go_wp2_with fail
                        refine hK.out _ _ ?_ (fun hHeld_15 => ?_)
                        · exact SS.out _ SX_u1115.out
                        clear hK K
                        try simp only [Act.put, List.setIfInBounds_toArray, List.set_cons_zero, List.set_cons_succ]
                        refine wpAnyH_ready (rs := [16]) (by kernel_rfl) (by simp) ?_
                        refine AllReadyH.cons (o := { dst := none, op := Op.store 33 (Operand.tmp 20) (Operand.tmp 164), type := 0, pos := "outright.go:135", after := #[{ on := 15, ground := Ground.data }, { on := 13, ground := Ground.data }, { on := 11, ground := Ground.chain }, { on := 0, ground := Ground.phase }, { on := 1, ground := Ground.phase }, { on := 2, ground := Ground.phase }, { on := 3, ground := Ground.phase }, { on := 4, ground := Ground.phase }, { on := 5, ground := Ground.phase }, { on := 6, ground := Ground.phase }, { on := 7, ground := Ground.phase }, { on := 8, ground := Ground.phase }, { on := 9, ground := Ground.phase }, { on := 10, ground := Ground.phase }, { on := 11, ground := Ground.phase }, { on := 12, ground := Ground.phase }, { on := 13, ground := Ground.phase }, { on := 14, ground := Ground.textOnly Departure.lateStores }, { on := 15, ground := Ground.phase }], guard := none }) rfl (fun K hK => ?_) AllReadyH.nil
                        have m0 : u1115.cell? ⟨B20, 0, none⟩ = some (.int .i64 0) := by simp [World.cell?, HX_u1115.out]
                        have m1 : u1115.cell? ⟨B20, 1, none⟩ = some (.int .i64 0) := by simp [World.cell?, HX_u1115.out]
                        have q0 : u1115.frozen? ⟨B20, 0, none⟩ = false := by simp [World.frozen?, HX_u1115.out]
                        have q1 : u1115.frozen? ⟨B20, 1, none⟩ = false := by simp [World.frozen?, HX_u1115.out]
                        obtain ⟨uE, huE⟩ : ∃ v, v = (u1115.setCell ⟨B20, 0, none⟩ (.int .i64 0)).setCell ⟨B20, 1, none⟩ (.int .i64 0) := ⟨_, rfl⟩
                        have tE : Turn B20 u1115 uE := by rw [huE]; exact (turn_setCell _ _ _ _).trans (turn_setCell _ _ _ _)
                        have SX_uE : Hid (Sub wr uE) := fun q v hq => tE.cell (SX_u1115.out _ _ hq) (by have h1 := World.block_lt_of_cell? _ _ hq; have h2 := LB.out; omega)
                        have BX_uE : Hid (Below B2 w uE) := BX_u1115.out.trans (tE.below (by have := BX_u1115.out.size; rw [HB2.out] at this; exact this) (by have h1 := LB.out; have h2 := INV.out.2.1.size; rw [HB2.out] at h2; omega))
                        go_simp
                        rw [← huE]
                        clear huE m0 m1 q0 q1 tE
                        try go_wp2_with fail
                        refine hK.out _ _ ?_ (fun hHeld_16 => ?_)
                        · exact SS.out _ SX_uE.out
                        clear hK K
                        try simp only [Act.put, List.setIfInBounds_toArray, List.set_cons_zero, List.set_cons_succ]
                        refine wpAnyH_take (i := 17) (oi := { dst := some 21, op := Op.assign (Operand.tmp 165), type := 4, pos := "outright.go:135", after := #[{ on := 14, ground := Ground.data }, { on := 16, ground := Ground.chain }, { on := 0, ground := Ground.phase }, { on := 1, ground := Ground.phase }, { on := 2, ground := Ground.phase }, { on := 3, ground := Ground.phase }, { on := 4, ground := Ground.phase }, { on := 5, ground := Ground.phase }, { on := 6, ground := Ground.phase }, { on := 7, ground := Ground.phase }, { on := 8, ground := Ground.phase }, { on := 9, ground := Ground.phase }, { on := 10, ground := Ground.phase }, { on := 11, ground := Ground.phase }, { on := 12, ground := Ground.phase }, { on := 13, ground := Ground.phase }, { on := 14, ground := Ground.phase }, { on := 15, ground := Ground.phase }, { on := 16, ground := Ground.phase }], guard := none }) (v := ?_) rfl (by kernel_rfl) (by kernel_rfl) (by kernel_rfl) (fun _ _ _ h => h) (Or.inl ⟨by rfl, ?_⟩) hHeld_16 ?_
                        rotate_left
                        · (intro w hSw; (try dsimp only at hSw); go_simp; try with_reducible rfl)
                        try simp only [Act.put, List.setIfInBounds_toArray, List.set_cons_zero, List.set_cons_succ]
                        refine wpAnyH_done (by kernel_rfl) ?_ _
                        have INV4 : Hid (Sub wF uE ∧ Below B2 w uE ∧ ∀ q ∈ l.take (j + 1), badH sl (isV m r) hv q = false) := ⟨INV.out.1.trans SX_uE.out, BX_uE.out, fun q hq => by
                          rw [take_pair HX.out, List.mem_append] at hq
                          rcases hq with hq | hq
                          · exact INV.out.2.2 q hq
                          · simp at hq; rw [hq]; exact HBB.out⟩
                        clear INV SS BX HBB
                        go_wp2
                        go_roundw
                        case rel => exact ⟨j + 1, by omega, by go_num, INV4.out⟩
                        case measure => simp [intOf]; omega
                      · obtain ⟨u15, hnw⟩ : ∃ v, v = (wr.alloc (.cells #[.int .i64 0, .int .i64 0] 33)).drew := ⟨_, rfl⟩
                        have bnw : Below wr.heap.size wr u15 := by rw [hnw]; exact (have hh := below_alloc wr (.cells #[.int .i64 0, .int .i64 0] 33); ⟨hh.os, hh.tape, hh.output, hh.size, hh.block⟩)
                        have SX_u15 : Hid (Sub wr u15) := sub_below bnw
                        have BX_u15 : Hid (Below B2 w u15) := BX_0.out.trans ((show Below wr.heap.size wr.drew u15 from ⟨bnw.os, bnw.tape, bnw.output, bnw.size, bnw.block⟩).mono (by have := BX_0.out.size; rw [HB2.out] at this; exact this))
                        have HX_u150 : Hid (u15.heap[wr.heap.size]? = some (.cells #[.int .i64 0, .int .i64 0] 33 (0, 0))) := by rw [hnw]; exact World.alloc_heap_new wr (.cells #[.int .i64 0, .int .i64 0] 33)
                        have LX_u15 : Hid (wr.heap.size ≤ u15.heap.size) := Nat.le_trans LX_0.out bnw.size
                        have LB20 : Hid (wr.heap.size ≤ wr.heap.size) := LX_0.out
                        go_simp
                        try rw [← hnw]
                        clear bnw hnw
                        obtain ⟨B20, hB20⟩ : ∃ B, wr.heap.size = B := ⟨_, rfl⟩
                        rw [hB20] at HX_u150 ⊢
                        have HX_u15 : Hid (u15.heap[B20]? = some (.cells #[.int .i64 0, .int .i64 0] 33 (0, 0))) := HX_u150.out
                        have LB : Hid (wr.heap.size ≤ B20) := by show wr.heap.size ≤ B20; rw [← hB20]; exact LB20.out
                        clear hB20 HX_u150 LB20
                        try go_wp2_with fail
                        refine hK.out _ _ ?_ (fun hHeld_15 => ?_)
                        · exact SS.out _ SX_u15.out
                        clear hK K
                        try simp only [Act.put, List.setIfInBounds_toArray, List.set_cons_zero, List.set_cons_succ]
                        refine wpAnyH_ready (rs := [11]) (by kernel_rfl) (by simp) ?_
                        refine AllReadyH.cons (o := { dst := some 163, op := Op.call { callee := Callee.value (Operand.func 11), args := #[Operand.tmp 157, Operand.tmp 158, Operand.tmp 160, Operand.tmp 162], argTypes := #[22, 27, 36, 22] }, type := 37, pos := "outright.go:135", after := #[{ on := 5, ground := Ground.data }, { on := 6, ground := Ground.data }, { on := 8, ground := Ground.data }, { on := 10, ground := Ground.data }], guard := none }) rfl (fun K hK => ?_) AllReadyH.nil
                        have CN : Hid _ := BX.out u15 SX_u15.out
                        go_simp
                        go_at_call 11
                        refine Calls.mono CN.out ?_
                        rintro e u1511 ⟨rfl, hb⟩
                        have SX_u1511 : Hid (Sub wr u1511) := SX_u15.out.trans (sub_below hb)
                        have BX_u1511 : Hid (Below B2 w u1511) := BX_u15.out.trans (hb.mono (by have := BX_u15.out.size; rw [HB2.out] at this; exact this))
                        have LX_u1511 : Hid (wr.heap.size ≤ u1511.heap.size) := Nat.le_trans LX_u15.out hb.size
                        have HX_u1511 : Hid (u1511.heap[B20]? = some (.cells #[.int .i64 0, .int .i64 0] 33 (0, 0))) := (hb.block _ (Array.getElem?_eq_some_iff.1 HX_u15.out).1).trans HX_u15.out
                        clear CN hb
                        try go_wp2_with fail
                        refine hK.out _ _ ?_ (fun hHeld_11 => ?_)
                        · exact SS.out _ SX_u1511.out
                        clear hK K
                        try simp only [Act.put, List.setIfInBounds_toArray, List.set_cons_zero, List.set_cons_succ]
                        refine wpAnyH_take (i := 12) (oi := { dst := some 151, op := Op.move (Operand.tmp 163), type := 37, pos := "outright.go:135", after := #[{ on := 11, ground := Ground.data }], guard := none }) (v := ?_) rfl (by kernel_rfl) (by kernel_rfl) (by kernel_rfl) (fun _ _ _ h => h) (Or.inl ⟨by rfl, ?_⟩) hHeld_11 ?_
                        rotate_left
                        · (intro w hSw; (try dsimp only at hSw); go_simp; try with_reducible rfl)
                        try simp only [Act.put, List.setIfInBounds_toArray, List.set_cons_zero, List.set_cons_succ]
                        refine wpAnyH_take (i := 13) (oi := { dst := some 164, op := Op.extract (Operand.tmp 151) 0, type := 33, pos := "outright.go:135", after := #[{ on := 12, ground := Ground.data }], guard := none }) (v := ?_) rfl (by kernel_rfl) (by kernel_rfl) (by kernel_rfl) (fun _ _ _ h => h) (Or.inl ⟨by rfl, ?_⟩) hHeld_11 ?_
                        rotate_left
                        · (intro w hSw; (try dsimp only at hSw); go_simp; try with_reducible rfl)
                        try simp only [Act.put, List.setIfInBounds_toArray, List.set_cons_zero, List.set_cons_succ]
                        refine wpAnyH_take (i := 14) (oi := { dst := some 165, op := Op.extract (Operand.tmp 151) 1, type := 4, pos := "outright.go:135", after := #[{ on := 12, ground := Ground.data }, { on := 16, ground := Ground.gcOnly Departure.lateStores }], guard := none }) (v := ?_) rfl (by kernel_rfl) (by kernel_rfl) (by kernel_rfl) (fun _ _ _ h => h) (Or.inl ⟨by rfl, ?_⟩) hHeld_11 ?_
                        rotate_left
                        · (intro w hSw; (try dsimp only at hSw); go_simp; try with_reducible rfl)
                        try simp only [Act.put, List.setIfInBounds_toArray, List.set_cons_zero, List.set_cons_succ]
                        refine wpAnyH_ready (rs := [16]) (by kernel_rfl) (by simp) ?_
                        refine AllReadyH.cons (o := { dst := none, op := Op.store 33 (Operand.tmp 20) (Operand.tmp 164), type := 0, pos := "outright.go:135", after := #[{ on := 15, ground := Ground.data }, { on := 13, ground := Ground.data }, { on := 11, ground := Ground.chain }, { on := 0, ground := Ground.phase }, { on := 1, ground := Ground.phase }, { on := 2, ground := Ground.phase }, { on := 3, ground := Ground.phase }, { on := 4, ground := Ground.phase }, { on := 5, ground := Ground.phase }, { on := 6, ground := Ground.phase }, { on := 7, ground := Ground.phase }, { on := 8, ground := Ground.phase }, { on := 9, ground := Ground.phase }, { on := 10, ground := Ground.phase }, { on := 11, ground := Ground.phase }, { on := 12, ground := Ground.phase }, { on := 13, ground := Ground.phase }, { on := 14, ground := Ground.textOnly Departure.lateStores }, { on := 15, ground := Ground.phase }], guard := none }) rfl (fun K hK => ?_) AllReadyH.nil
                        have m0 : u1511.cell? ⟨B20, 0, none⟩ = some (.int .i64 0) := by simp [World.cell?, HX_u1511.out]
                        have m1 : u1511.cell? ⟨B20, 1, none⟩ = some (.int .i64 0) := by simp [World.cell?, HX_u1511.out]
                        have q0 : u1511.frozen? ⟨B20, 0, none⟩ = false := by simp [World.frozen?, HX_u1511.out]
                        have q1 : u1511.frozen? ⟨B20, 1, none⟩ = false := by simp [World.frozen?, HX_u1511.out]
                        obtain ⟨uE, huE⟩ : ∃ v, v = (u1511.setCell ⟨B20, 0, none⟩ (.int .i64 0)).setCell ⟨B20, 1, none⟩ (.int .i64 0) := ⟨_, rfl⟩
                        have tE : Turn B20 u1511 uE := by rw [huE]; exact (turn_setCell _ _ _ _).trans (turn_setCell _ _ _ _)
                        have SX_uE : Hid (Sub wr uE) := fun q v hq => tE.cell (SX_u1511.out _ _ hq) (by have h1 := World.block_lt_of_cell? _ _ hq; have h2 := LB.out; omega)
                        have BX_uE : Hid (Below B2 w uE) := BX_u1511.out.trans (tE.below (by have := BX_u1511.out.size; rw [HB2.out] at this; exact this) (by have h1 := LB.out; have h2 := INV.out.2.1.size; rw [HB2.out] at h2; omega))
                        go_simp
                        rw [← huE]
                        clear huE m0 m1 q0 q1 tE
                        try go_wp2_with fail
                        refine hK.out _ _ ?_ (fun hHeld_16 => ?_)
                        · exact SS.out _ SX_uE.out
                        clear hK K
                        try simp only [Act.put, List.setIfInBounds_toArray, List.set_cons_zero, List.set_cons_succ]
                        refine wpAnyH_take (i := 17) (oi := { dst := some 21, op := Op.assign (Operand.tmp 165), type := 4, pos := "outright.go:135", after := #[{ on := 14, ground := Ground.data }, { on := 16, ground := Ground.chain }, { on := 0, ground := Ground.phase }, { on := 1, ground := Ground.phase }, { on := 2, ground := Ground.phase }, { on := 3, ground := Ground.phase }, { on := 4, ground := Ground.phase }, { on := 5, ground := Ground.phase }, { on := 6, ground := Ground.phase }, { on := 7, ground := Ground.phase }, { on := 8, ground := Ground.phase }, { on := 9, ground := Ground.phase }, { on := 10, ground := Ground.phase }, { on := 11, ground := Ground.phase }, { on := 12, ground := Ground.phase }, { on := 13, ground := Ground.phase }, { on := 14, ground := Ground.phase }, { on := 15, ground := Ground.phase }, { on := 16, ground := Ground.phase }], guard := none }) (v := ?_) rfl (by kernel_rfl) (by kernel_rfl) (by kernel_rfl) (fun _ _ _ h => h) (Or.inl ⟨by rfl, ?_⟩) hHeld_16 ?_
                        rotate_left
                        · (intro w hSw; (try dsimp only at hSw); go_simp; try with_reducible rfl)
                        try simp only [Act.put, List.setIfInBounds_toArray, List.set_cons_zero, List.set_cons_succ]
                        refine wpAnyH_done (by kernel_rfl) ?_ _
                        have INV4 : Hid (Sub wF uE ∧ Below B2 w uE ∧ ∀ q ∈ l.take (j + 1), badH sl (isV m r) hv q = false) := ⟨INV.out.1.trans SX_uE.out, BX_uE.out, fun q hq => by
                          rw [take_pair HX.out, List.mem_append] at hq
                          rcases hq with hq | hq
                          · exact INV.out.2.2 q hq
                          · simp at hq; rw [hq]; exact HBB.out⟩
                        clear INV SS BX HBB
                        go_wp2
                        go_roundw
                        case rel => exact ⟨j + 1, by omega, by go_num, INV4.out⟩
                        case measure => simp [intOf]; omega
                    · have HBB : Hid (badH sl (isV m r) hv (x, y) = true) := hbb
                      have BX : Hid (∀ W, Sub wr W → Calls Tryz.prog 11 #[.slice (some ⟨b1, o1 + j * 2, none⟩) 1 (cL - j), .agg #[.slice aS ks cs], .func (.func 10) #[.agg #[.slice (some ⟨b1, o1, none⟩) nL cL, .slice a0 n0 c0, .slice aH nH cH, .int .i64 m, .int .i64 r]] #[], .slice aH nH cH] W fun e w' => e = .returned (.tuple #[.agg #[.int .i64 x, .int .i64 y], .bool true]) ∧ Below W.heap.size W w') := fun W hW => (BXG.out W hW).mono fun e w' h => by
                        obtain ⟨h1, h2⟩ := h
                        rw [find_one, hbb] at h1
                        exact ⟨h1, h2⟩
                      clear hx hbb BXG c1 d1
                      go_wp2_with fail
                      clear k0 k1 k2 k3 k4 k5
                      refine wp_region_held_drew (S := fun w' => w'.cell? ⟨B2, 0, none⟩ = some (.slice (some ⟨b1, o1, none⟩) nL cL) ∧ w'.cell? ⟨B2, 1, none⟩ = some (.slice a0 n0 c0) ∧ w'.cell? ⟨B2, 2, none⟩ = some (.slice aH nH cH) ∧ w'.cell? ⟨B2, 3, none⟩ = some (.int .i64 m) ∧ w'.cell? ⟨B2, 4, none⟩ = some (.int .i64 r) ∧ w'.cell? ⟨B5, 0, none⟩ = some (.slice aS ks cs)) (by kernel_rfl) ?_ (fun hHeld => ?_)
                      · exact SS.out _ (fun _ _ h => h)
                      refine wpAnyH_take (i := 0) (oi := { dst := some 152, op := Op.fieldAddr 25 (Operand.tmp 2) 0, type := 0, pos := "outright.go:135", after := #[], guard := none }) (v := ?_) rfl (by kernel_rfl) (by kernel_rfl) (by kernel_rfl) (fun _ _ _ h => h) (Or.inl ⟨by rfl, ?_⟩) hHeld ?_
                      rotate_left
                      · (intro w hSw; (try dsimp only at hSw); go_simp; try with_reducible rfl)
                      try simp only [Act.put, List.setIfInBounds_toArray, List.set_cons_zero, List.set_cons_succ]
                      refine wpAnyH_take (i := 1) (oi := { dst := some 153, op := Op.load 22 (Operand.tmp 152), type := 22, pos := "outright.go:135", after := #[{ on := 0, ground := Ground.data }], guard := none }) (v := ?_) rfl (by kernel_rfl) (by kernel_rfl) (by kernel_rfl) (fun _ _ _ h => h) (Or.inl ⟨by rfl, ?_⟩) hHeld ?_
                      rotate_left
                      · (intro w hSw; (try dsimp only at hSw); go_simp; try with_reducible rfl)
                      try simp only [Act.put, List.setIfInBounds_toArray, List.set_cons_zero, List.set_cons_succ]
                      refine wpAnyH_take (i := 2) (oi := { dst := some 154, op := Op.move (Operand.tmp 19), type := 3, pos := "outright.go:135", after := #[], guard := none }) (v := ?_) rfl (by kernel_rfl) (by kernel_rfl) (by kernel_rfl) (fun _ _ _ h => h) (Or.inl ⟨by rfl, ?_⟩) hHeld ?_
                      rotate_left
                      · (intro w hSw; (try dsimp only at hSw); go_simp; try with_reducible rfl)
                      try simp only [Act.put, List.setIfInBounds_toArray, List.set_cons_zero, List.set_cons_succ]
                      refine wpAnyH_take (i := 3) (oi := { dst := some 155, op := Op.move (Operand.tmp 19), type := 3, pos := "outright.go:135", after := #[], guard := none }) (v := ?_) rfl (by kernel_rfl) (by kernel_rfl) (by kernel_rfl) (fun _ _ _ h => h) (Or.inl ⟨by rfl, ?_⟩) hHeld ?_
                      rotate_left
                      · (intro w hSw; (try dsimp only at hSw); go_simp; try with_reducible rfl)
                      try simp only [Act.put, List.setIfInBounds_toArray, List.set_cons_zero, List.set_cons_succ]
                      refine wpAnyH_take (i := 4) (oi := { dst := some 156, op := Op.binOp BinOp.add 3 (Operand.tmp 155) (Operand.const (Value.int IntKind.i64 1)) 3, type := 3, pos := "outright.go:135", after := #[{ on := 3, ground := Ground.data }], guard := none }) (v := ?_) rfl (by kernel_rfl) (by kernel_rfl) (by kernel_rfl) (fun _ _ _ h => h) (Or.inl ⟨by rfl, ?_⟩) hHeld ?_
                      rotate_left
                      · (intro w hSw; (try dsimp only at hSw); go_simp; try with_reducible rfl)
                      try simp only [Act.put, List.setIfInBounds_toArray, List.set_cons_zero, List.set_cons_succ]
                      refine wpAnyH_take (i := 5) (oi := { dst := some 157, op := Op.slice 22 (Operand.tmp 153) (some (Operand.tmp 154)) (some (Operand.tmp 156)) none, type := 22, pos := "outright.go:135", after := #[{ on := 1, ground := Ground.data }, { on := 2, ground := Ground.data }, { on := 4, ground := Ground.data }], guard := none }) (v := ?_) rfl (by kernel_rfl) (by kernel_rfl) (by kernel_rfl) (fun _ _ _ h => h) (Or.inl ⟨by rfl, ?_⟩) hHeld ?_
                      rotate_left
                      · (intro w hSw; (try dsimp only at hSw); go_simp; try with_reducible rfl)
                      try simp only [Act.put, List.setIfInBounds_toArray, List.set_cons_zero, List.set_cons_succ]
                      refine wpAnyH_take (i := 6) (oi := { dst := some 158, op := Op.load 27 (Operand.tmp 5), type := 27, pos := "outright.go:135", after := #[], guard := none }) (v := ?_) rfl (by kernel_rfl) (by kernel_rfl) (by kernel_rfl) (fun _ _ _ h => h) (Or.inl ⟨by rfl, ?_⟩) hHeld ?_
                      rotate_left
                      · (intro w hSw; (try dsimp only at hSw); go_simp; try with_reducible rfl)
                      try simp only [Act.put, List.setIfInBounds_toArray, List.set_cons_zero, List.set_cons_succ]
                      refine wpAnyH_take (i := 7) (oi := { dst := some 159, op := Op.load 25 (Operand.tmp 2), type := 25, pos := "outright.go:135", after := #[], guard := none }) (v := ?_) rfl (by kernel_rfl) (by kernel_rfl) (by kernel_rfl) (fun _ _ _ h => h) (Or.inl ⟨by rfl, ?_⟩) hHeld ?_
                      rotate_left
                      · (intro w hSw; (try dsimp only at hSw); go_simp; try with_reducible rfl)
                      try simp only [Act.put, List.setIfInBounds_toArray, List.set_cons_zero, List.set_cons_succ]
                      refine wpAnyH_take (i := 8) (oi := { dst := some 160, op := Op.makeFunc (Fn.func 10) #[Operand.tmp 159] #[], type := 36, pos := "outright.go:135", after := #[{ on := 7, ground := Ground.data }], guard := none }) (v := ?_) rfl (by kernel_rfl) (by kernel_rfl) (by kernel_rfl) (fun _ _ _ h => h) (Or.inl ⟨by rfl, ?_⟩) hHeld ?_
                      rotate_left
                      · (intro w hSw; (try dsimp only at hSw); go_simp; try with_reducible rfl)
                      try simp only [Act.put, List.setIfInBounds_toArray, List.set_cons_zero, List.set_cons_succ]
                      refine wpAnyH_take (i := 9) (oi := { dst := some 161, op := Op.fieldAddr 25 (Operand.tmp 2) 2, type := 0, pos := "outright.go:135", after := #[], guard := none }) (v := ?_) rfl (by kernel_rfl) (by kernel_rfl) (by kernel_rfl) (fun _ _ _ h => h) (Or.inl ⟨by rfl, ?_⟩) hHeld ?_
                      rotate_left
                      · (intro w hSw; (try dsimp only at hSw); go_simp; try with_reducible rfl)
                      try simp only [Act.put, List.setIfInBounds_toArray, List.set_cons_zero, List.set_cons_succ]
                      refine wpAnyH_take (i := 10) (oi := { dst := some 162, op := Op.load 22 (Operand.tmp 161), type := 22, pos := "outright.go:135", after := #[{ on := 9, ground := Ground.data }], guard := none }) (v := ?_) rfl (by kernel_rfl) (by kernel_rfl) (by kernel_rfl) (fun _ _ _ h => h) (Or.inl ⟨by rfl, ?_⟩) hHeld ?_
                      rotate_left
                      · (intro w hSw; (try dsimp only at hSw); go_simp; try with_reducible rfl)
                      try simp only [Act.put, List.setIfInBounds_toArray, List.set_cons_zero, List.set_cons_succ]
                      refine wpAnyH_ready (rs := [11, 15]) (by kernel_rfl) (by simp) ?_
                      refine AllReadyH.cons (o := { dst := some 163, op := Op.call { callee := Callee.value (Operand.func 11), args := #[Operand.tmp 157, Operand.tmp 158, Operand.tmp 160, Operand.tmp 162], argTypes := #[22, 27, 36, 22] }, type := 37, pos := "outright.go:135", after := #[{ on := 5, ground := Ground.data }, { on := 6, ground := Ground.data }, { on := 8, ground := Ground.data }, { on := 10, ground := Ground.data }], guard := none }) rfl (fun K hK => ?_) (AllReadyH.cons (o := { dst := some 20, op := Op.alloc 33, type := 0, pos := "outright.go:135", after := #[], guard := none }) rfl (fun K hK => ?_) AllReadyH.nil)
                      · have CN : Hid _ := BX.out wr.drew SX_0.out
                        go_simp
                        go_at_call 11
                        refine Calls.mono CN.out ?_
                        rintro e u11 ⟨rfl, hb⟩
                        have SX_u11 : Hid (Sub wr u11) := SX_0.out.trans (sub_below hb)
                        have BX_u11 : Hid (Below B2 w u11) := BX_0.out.trans (hb.mono (by have := BX_0.out.size; rw [HB2.out] at this; exact this))
                        have LX_u11 : Hid (wr.heap.size ≤ u11.heap.size) := Nat.le_trans LX_0.out hb.size
                        clear CN hb
                        try go_wp2_with fail
                        refine hK.out _ _ ?_ (fun hHeld_11 => ?_)
                        · exact SS.out _ SX_u11.out
                        clear hK K
                        try simp only [Act.put, List.setIfInBounds_toArray, List.set_cons_zero, List.set_cons_succ]
                        refine wpAnyH_take (i := 12) (oi := { dst := some 151, op := Op.move (Operand.tmp 163), type := 37, pos := "outright.go:135", after := #[{ on := 11, ground := Ground.data }], guard := none }) (v := ?_) rfl (by kernel_rfl) (by kernel_rfl) (by kernel_rfl) (fun _ _ _ h => h) (Or.inl ⟨by rfl, ?_⟩) hHeld_11 ?_
                        rotate_left
                        · (intro w hSw; (try dsimp only at hSw); go_simp; try with_reducible rfl)
                        try simp only [Act.put, List.setIfInBounds_toArray, List.set_cons_zero, List.set_cons_succ]
                        refine wpAnyH_take (i := 13) (oi := { dst := some 164, op := Op.extract (Operand.tmp 151) 0, type := 33, pos := "outright.go:135", after := #[{ on := 12, ground := Ground.data }], guard := none }) (v := ?_) rfl (by kernel_rfl) (by kernel_rfl) (by kernel_rfl) (fun _ _ _ h => h) (Or.inl ⟨by rfl, ?_⟩) hHeld_11 ?_
                        rotate_left
                        · (intro w hSw; (try dsimp only at hSw); go_simp; try with_reducible rfl)
                        try simp only [Act.put, List.setIfInBounds_toArray, List.set_cons_zero, List.set_cons_succ]
                        refine wpAnyH_take (i := 14) (oi := { dst := some 165, op := Op.extract (Operand.tmp 151) 1, type := 4, pos := "outright.go:135", after := #[{ on := 12, ground := Ground.data }, { on := 16, ground := Ground.gcOnly Departure.lateStores }], guard := none }) (v := ?_) rfl (by kernel_rfl) (by kernel_rfl) (by kernel_rfl) (fun _ _ _ h => h) (Or.inl ⟨by rfl, ?_⟩) hHeld_11 ?_
                        rotate_left
                        · (intro w hSw; (try dsimp only at hSw); go_simp; try with_reducible rfl)
                        try simp only [Act.put, List.setIfInBounds_toArray, List.set_cons_zero, List.set_cons_succ]
                        refine wpAnyH_ready (rs := [15]) (by kernel_rfl) (by simp) ?_
                        refine AllReadyH.cons (o := { dst := some 20, op := Op.alloc 33, type := 0, pos := "outright.go:135", after := #[], guard := none }) rfl (fun K hK => ?_) AllReadyH.nil
                        obtain ⟨u1115, hnw⟩ : ∃ v, v = u11.alloc (.cells #[.int .i64 0, .int .i64 0] 33) := ⟨_, rfl⟩
                        have bnw : Below u11.heap.size u11 u1115 := by rw [hnw]; exact below_alloc _ _
                        have SX_u1115 : Hid (Sub wr u1115) := SX_u11.out.trans (sub_below bnw)
                        have BX_u1115 : Hid (Below B2 w u1115) := BX_u11.out.trans ((show Below u11.heap.size u11 u1115 from ⟨bnw.os, bnw.tape, bnw.output, bnw.size, bnw.block⟩).mono (by have := BX_u11.out.size; rw [HB2.out] at this; exact this))
                        have HX_u11150 : Hid (u1115.heap[u11.heap.size]? = some (.cells #[.int .i64 0, .int .i64 0] 33 (0, 0))) := by rw [hnw]; exact World.alloc_heap_new u11 (.cells #[.int .i64 0, .int .i64 0] 33)
                        have LX_u1115 : Hid (wr.heap.size ≤ u1115.heap.size) := Nat.le_trans LX_u11.out bnw.size
                        have LB20 : Hid (wr.heap.size ≤ u11.heap.size) := LX_u11.out
                        go_simp
                        try rw [← hnw]
                        clear bnw hnw
                        obtain ⟨B20, hB20⟩ : ∃ B, u11.heap.size = B := ⟨_, rfl⟩
                        rw [hB20] at HX_u11150 ⊢
                        have HX_u1115 : Hid (u1115.heap[B20]? = some (.cells #[.int .i64 0, .int .i64 0] 33 (0, 0))) := HX_u11150.out
                        have LB : Hid (wr.heap.size ≤ B20) := by show wr.heap.size ≤ B20; rw [← hB20]; exact LB20.out
                        clear hB20 HX_u11150 LB20
                        try go_wp2_with fail
                        refine hK.out _ _ ?_ (fun hHeld_15 => ?_)
                        · exact SS.out _ SX_u1115.out
                        clear hK K
                        try simp only [Act.put, List.setIfInBounds_toArray, List.set_cons_zero, List.set_cons_succ]
                        refine wpAnyH_ready (rs := [16]) (by kernel_rfl) (by simp) ?_
                        refine AllReadyH.cons (o := { dst := none, op := Op.store 33 (Operand.tmp 20) (Operand.tmp 164), type := 0, pos := "outright.go:135", after := #[{ on := 15, ground := Ground.data }, { on := 13, ground := Ground.data }, { on := 11, ground := Ground.chain }, { on := 0, ground := Ground.phase }, { on := 1, ground := Ground.phase }, { on := 2, ground := Ground.phase }, { on := 3, ground := Ground.phase }, { on := 4, ground := Ground.phase }, { on := 5, ground := Ground.phase }, { on := 6, ground := Ground.phase }, { on := 7, ground := Ground.phase }, { on := 8, ground := Ground.phase }, { on := 9, ground := Ground.phase }, { on := 10, ground := Ground.phase }, { on := 11, ground := Ground.phase }, { on := 12, ground := Ground.phase }, { on := 13, ground := Ground.phase }, { on := 14, ground := Ground.textOnly Departure.lateStores }, { on := 15, ground := Ground.phase }], guard := none }) rfl (fun K hK => ?_) AllReadyH.nil
                        have m0 : u1115.cell? ⟨B20, 0, none⟩ = some (.int .i64 0) := by simp [World.cell?, HX_u1115.out]
                        have m1 : u1115.cell? ⟨B20, 1, none⟩ = some (.int .i64 0) := by simp [World.cell?, HX_u1115.out]
                        have q0 : u1115.frozen? ⟨B20, 0, none⟩ = false := by simp [World.frozen?, HX_u1115.out]
                        have q1 : u1115.frozen? ⟨B20, 1, none⟩ = false := by simp [World.frozen?, HX_u1115.out]
                        obtain ⟨uE, huE⟩ : ∃ v, v = (u1115.setCell ⟨B20, 0, none⟩ (.int .i64 x)).setCell ⟨B20, 1, none⟩ (.int .i64 y) := ⟨_, rfl⟩
                        have tE : Turn B20 u1115 uE := by rw [huE]; exact (turn_setCell _ _ _ _).trans (turn_setCell _ _ _ _)
                        have SX_uE : Hid (Sub wr uE) := fun q v hq => tE.cell (SX_u1115.out _ _ hq) (by have h1 := World.block_lt_of_cell? _ _ hq; have h2 := LB.out; omega)
                        have BX_uE : Hid (Below B2 w uE) := BX_u1115.out.trans (tE.below (by have := BX_u1115.out.size; rw [HB2.out] at this; exact this) (by have h1 := LB.out; have h2 := INV.out.2.1.size; rw [HB2.out] at h2; omega))
                        go_simp
                        rw [← huE]
                        clear huE m0 m1 q0 q1 tE
                        try go_wp2_with fail
                        refine hK.out _ _ ?_ (fun hHeld_16 => ?_)
                        · exact SS.out _ SX_uE.out
                        clear hK K
                        try simp only [Act.put, List.setIfInBounds_toArray, List.set_cons_zero, List.set_cons_succ]
                        refine wpAnyH_take (i := 17) (oi := { dst := some 21, op := Op.assign (Operand.tmp 165), type := 4, pos := "outright.go:135", after := #[{ on := 14, ground := Ground.data }, { on := 16, ground := Ground.chain }, { on := 0, ground := Ground.phase }, { on := 1, ground := Ground.phase }, { on := 2, ground := Ground.phase }, { on := 3, ground := Ground.phase }, { on := 4, ground := Ground.phase }, { on := 5, ground := Ground.phase }, { on := 6, ground := Ground.phase }, { on := 7, ground := Ground.phase }, { on := 8, ground := Ground.phase }, { on := 9, ground := Ground.phase }, { on := 10, ground := Ground.phase }, { on := 11, ground := Ground.phase }, { on := 12, ground := Ground.phase }, { on := 13, ground := Ground.phase }, { on := 14, ground := Ground.phase }, { on := 15, ground := Ground.phase }, { on := 16, ground := Ground.phase }], guard := none }) (v := ?_) rfl (by kernel_rfl) (by kernel_rfl) (by kernel_rfl) (fun _ _ _ h => h) (Or.inl ⟨by rfl, ?_⟩) hHeld_16 ?_
                        rotate_left
                        · (intro w hSw; (try dsimp only at hSw); go_simp; try with_reducible rfl)
                        try simp only [Act.put, List.setIfInBounds_toArray, List.set_cons_zero, List.set_cons_succ]
                        refine wpAnyH_done (by kernel_rfl) ?_ _
                        have hfe : l.find? (badH sl (isV m r) hv) = some (x, y) := find_at HX.out HBB.out INV.out.2.2
                        have hpp : (px, py) = (x, y) := by have h := HPX.out; rw [hfe] at h; exact h.symm
                        obtain ⟨rfl, rfl⟩ := Prod.mk.inj hpp
                        have ZZ : Hid (∀ w', Sub uE w' → w'.cell? ⟨B10, 0, none⟩ = some (.int .i64 px) ∧ w'.cell? ⟨B10, 1, none⟩ = some (.int .i64 py) ∧ w'.cell? ⟨B2, 0, none⟩ = some (.slice (some ⟨b1, o1, none⟩) nL cL) ∧ w'.cell? ⟨b1, o1 + j * 2, none⟩ = some (.int .i64 px) ∧ w'.cell? ⟨b1, o1 + j * 2 + 1, none⟩ = some (.int .i64 py)) := fun w' h => by
                          have s := (INV.out.1.trans SX_uE.out).trans h
                          obtain ⟨bq, oq, eq, cq, dq'⟩ := PL.out.sub ((SWS.out.trans SF.out).trans s) j _ HX.out
                          cases eq
                          exact ⟨s _ _ X10.out.1, s _ _ X10.out.2, (KF.out w' s).1, cq, dq'⟩
                        clear hfe SS BX HBB
                        go_wp2_with fail
                        refine wp_region_held_drew (S := fun w' => w'.cell? ⟨B10, 0, none⟩ = some (.int .i64 px) ∧ w'.cell? ⟨B10, 1, none⟩ = some (.int .i64 py) ∧ w'.cell? ⟨B2, 0, none⟩ = some (.slice (some ⟨b1, o1, none⟩) nL cL) ∧ w'.cell? ⟨b1, o1 + j * 2, none⟩ = some (.int .i64 px) ∧ w'.cell? ⟨b1, o1 + j * 2 + 1, none⟩ = some (.int .i64 py)) (by kernel_rfl) ?_ (fun hHeld => ?_)
                        · exact ZZ.out _ (fun _ _ h => h)
                        refine wpAnyH_take (i := 0) (oi := { dst := some 167, op := Op.move (Operand.tmp 11), type := 4, pos := "outright.go:137", after := #[], guard := none }) (v := ?_) rfl (by kernel_rfl) (by kernel_rfl) (by kernel_rfl) (fun _ _ _ h => h) (Or.inl ⟨by rfl, ?_⟩) hHeld ?_
                        rotate_left
                        · (intro w hSw; (try dsimp only at hSw); go_simp; try with_reducible rfl)
                        try simp only [Act.put, List.setIfInBounds_toArray, List.set_cons_zero, List.set_cons_succ]
                        refine wpAnyH_take (i := 1) (oi := { dst := some 168, op := Op.unOp UnOp.not 4 (Operand.tmp 167), type := 4, pos := "outright.go:137", after := #[{ on := 0, ground := Ground.data }], guard := none }) (v := ?_) rfl (by kernel_rfl) (by kernel_rfl) (by kernel_rfl) (fun _ _ _ h => h) (Or.inl ⟨by rfl, ?_⟩) hHeld ?_
                        rotate_left
                        · (intro w hSw; (try dsimp only at hSw); go_simp; try with_reducible rfl)
                        try simp only [Act.put, List.setIfInBounds_toArray, List.set_cons_zero, List.set_cons_succ]
                        refine wpAnyH_take (i := 2) (oi := { dst := some 169, op := Op.move (Operand.tmp 168), type := 4, pos := "outright.go:137", after := #[{ on := 1, ground := Ground.data }], guard := none }) (v := ?_) rfl (by kernel_rfl) (by kernel_rfl) (by kernel_rfl) (fun _ _ _ h => h) (Or.inl ⟨by rfl, ?_⟩) hHeld ?_
                        rotate_left
                        · (intro w hSw; (try dsimp only at hSw); go_simp; try with_reducible rfl)
                        try simp only [Act.put, List.setIfInBounds_toArray, List.set_cons_zero, List.set_cons_succ]
                        refine wpAnyH_take (i := 3) (oi := { dst := some 170, op := Op.load 33 (Operand.tmp 10), type := 33, pos := "outright.go:137", after := #[{ on := 2, ground := Ground.guard }], guard := some (2, false) }) (v := ?_) rfl (by kernel_rfl) (by kernel_rfl) (by kernel_rfl) (fun _ _ _ h => h) (Or.inl ⟨by rfl, ?_⟩) hHeld ?_
                        rotate_left
                        · (intro w hSw; (try dsimp only at hSw); go_simp; try with_reducible rfl)
                        try simp only [Act.put, List.setIfInBounds_toArray, List.set_cons_zero, List.set_cons_succ]
                        refine wpAnyH_take (i := 4) (oi := { dst := some 171, op := Op.fieldAddr 25 (Operand.tmp 2) 0, type := 0, pos := "outright.go:137", after := #[{ on := 2, ground := Ground.guard }], guard := some (2, false) }) (v := ?_) rfl (by kernel_rfl) (by kernel_rfl) (by kernel_rfl) (fun _ _ _ h => h) (Or.inl ⟨by rfl, ?_⟩) hHeld ?_
                        rotate_left
                        · (intro w hSw; (try dsimp only at hSw); go_simp; try with_reducible rfl)
                        try simp only [Act.put, List.setIfInBounds_toArray, List.set_cons_zero, List.set_cons_succ]
                        refine wpAnyH_take (i := 5) (oi := { dst := some 172, op := Op.load 22 (Operand.tmp 171), type := 22, pos := "outright.go:137", after := #[{ on := 4, ground := Ground.data }, { on := 2, ground := Ground.guard }], guard := some (2, false) }) (v := ?_) rfl (by kernel_rfl) (by kernel_rfl) (by kernel_rfl) (fun _ _ _ h => h) (Or.inl ⟨by rfl, ?_⟩) hHeld ?_
                        rotate_left
                        · (intro w hSw; (try dsimp only at hSw); go_simp; try with_reducible rfl)
                        try simp only [Act.put, List.setIfInBounds_toArray, List.set_cons_zero, List.set_cons_succ]
                        refine wpAnyH_take (i := 6) (oi := { dst := some 173, op := Op.move (Operand.tmp 19), type := 3, pos := "outright.go:137", after := #[{ on := 2, ground := Ground.guard }], guard := some (2, false) }) (v := ?_) rfl (by kernel_rfl) (by kernel_rfl) (by kernel_rfl) (fun _ _ _ h => h) (Or.inl ⟨by rfl, ?_⟩) hHeld ?_
                        rotate_left
                        · (intro w hSw; (try dsimp only at hSw); go_simp; try with_reducible rfl)
                        try simp only [Act.put, List.setIfInBounds_toArray, List.set_cons_zero, List.set_cons_succ]
                        refine wpAnyH_take (i := 7) (oi := { dst := some 174, op := Op.indexAddr 22 (Operand.tmp 172) (Operand.tmp 173), type := 0, pos := "outright.go:137", after := #[{ on := 5, ground := Ground.data }, { on := 6, ground := Ground.data }, { on := 2, ground := Ground.guard }], guard := some (2, false) }) (v := ?_) rfl (by kernel_rfl) (by kernel_rfl) (by kernel_rfl) (fun _ _ _ h => h) (Or.inl ⟨by rfl, ?_⟩) hHeld ?_
                        rotate_left
                        · (intro w hSw; (try dsimp only at hSw); go_simp; try with_reducible rfl)
                        try simp only [Act.put, List.setIfInBounds_toArray, List.set_cons_zero, List.set_cons_succ]
                        refine wpAnyH_take (i := 8) (oi := { dst := some 175, op := Op.load 33 (Operand.tmp 174), type := 33, pos := "outright.go:137", after := #[{ on := 7, ground := Ground.data }, { on := 2, ground := Ground.guard }], guard := some (2, false) }) (v := ?_) rfl (by kernel_rfl) (by kernel_rfl) (by kernel_rfl) (fun _ _ _ h => h) (Or.inl ⟨by rfl, ?_⟩) hHeld ?_
                        rotate_left
                        · (intro w hSw; (try dsimp only at hSw); go_simp; try with_reducible rfl)
                        try simp only [Act.put, List.setIfInBounds_toArray, List.set_cons_zero, List.set_cons_succ]
                        refine wpAnyH_take (i := 9) (oi := { dst := some 176, op := Op.binOp BinOp.neq 33 (Operand.tmp 170) (Operand.tmp 175) 33, type := 4, pos := "outright.go:137", after := #[{ on := 3, ground := Ground.data }, { on := 8, ground := Ground.data }, { on := 2, ground := Ground.guard }], guard := some (2, false) }) (v := ?_) rfl (by kernel_rfl) (by kernel_rfl) (by kernel_rfl) (fun _ _ _ h => h) (Or.inl ⟨by rfl, ?_⟩) hHeld ?_
                        rotate_left
                        · (intro w hSw; (try dsimp only at hSw); go_simp; try with_reducible rfl)
                        try simp only [Act.put, List.setIfInBounds_toArray, List.set_cons_zero, List.set_cons_succ]
                        refine wpAnyH_take (i := 10) (oi := { dst := some 177, op := Op.pick (Operand.tmp 169) (Operand.const (Value.bool true)) (Operand.tmp 176), type := 4, pos := "outright.go:137", after := #[{ on := 2, ground := Ground.data }, { on := 9, ground := Ground.data }], guard := none }) (v := ?_) rfl (by kernel_rfl) (by kernel_rfl) (by kernel_rfl) (fun _ _ _ h => h) (Or.inl ⟨by rfl, ?_⟩) hHeld ?_
                        rotate_left
                        · (intro w hSw; (try dsimp only at hSw); go_simp; try with_reducible rfl)
                        try simp only [Act.put, List.setIfInBounds_toArray, List.set_cons_zero, List.set_cons_succ]
                        refine wpAnyH_done (by kernel_rfl) ?_ _
                        have INV5 : Hid (Sub wF uE.drew ∧ Below B2 w uE.drew) := ⟨INV.out.1.trans SX_uE.out, ⟨BX_uE.out.os, BX_uE.out.tape, BX_uE.out.output, BX_uE.out.size, BX_uE.out.block⟩⟩
                        obtain ⟨wN, hwN⟩ : ∃ wN, wN = uE.drew := ⟨_, rfl⟩
                        rw [← hwN] at INV5
                        clear INV ZZ hj hlt n1 f1 f2 f3 f4 f5 f6
                        go_wp2
                        rw [← hwN]
                        clear hwN
                        go_ret
                        exact ⟨rfl, INV5.out.2⟩
                      · obtain ⟨u15, hnw⟩ : ∃ v, v = (wr.alloc (.cells #[.int .i64 0, .int .i64 0] 33)).drew := ⟨_, rfl⟩
                        have bnw : Below wr.heap.size wr u15 := by rw [hnw]; exact (have hh := below_alloc wr (.cells #[.int .i64 0, .int .i64 0] 33); ⟨hh.os, hh.tape, hh.output, hh.size, hh.block⟩)
                        have SX_u15 : Hid (Sub wr u15) := sub_below bnw
                        have BX_u15 : Hid (Below B2 w u15) := BX_0.out.trans ((show Below wr.heap.size wr.drew u15 from ⟨bnw.os, bnw.tape, bnw.output, bnw.size, bnw.block⟩).mono (by have := BX_0.out.size; rw [HB2.out] at this; exact this))
                        have HX_u150 : Hid (u15.heap[wr.heap.size]? = some (.cells #[.int .i64 0, .int .i64 0] 33 (0, 0))) := by rw [hnw]; exact World.alloc_heap_new wr (.cells #[.int .i64 0, .int .i64 0] 33)
                        have LX_u15 : Hid (wr.heap.size ≤ u15.heap.size) := Nat.le_trans LX_0.out bnw.size
                        have LB20 : Hid (wr.heap.size ≤ wr.heap.size) := LX_0.out
                        go_simp
                        try rw [← hnw]
                        clear bnw hnw
                        obtain ⟨B20, hB20⟩ : ∃ B, wr.heap.size = B := ⟨_, rfl⟩
                        rw [hB20] at HX_u150 ⊢
                        have HX_u15 : Hid (u15.heap[B20]? = some (.cells #[.int .i64 0, .int .i64 0] 33 (0, 0))) := HX_u150.out
                        have LB : Hid (wr.heap.size ≤ B20) := by show wr.heap.size ≤ B20; rw [← hB20]; exact LB20.out
                        clear hB20 HX_u150 LB20
                        try go_wp2_with fail
                        refine hK.out _ _ ?_ (fun hHeld_15 => ?_)
                        · exact SS.out _ SX_u15.out
                        clear hK K
                        try simp only [Act.put, List.setIfInBounds_toArray, List.set_cons_zero, List.set_cons_succ]
                        refine wpAnyH_ready (rs := [11]) (by kernel_rfl) (by simp) ?_
                        refine AllReadyH.cons (o := { dst := some 163, op := Op.call { callee := Callee.value (Operand.func 11), args := #[Operand.tmp 157, Operand.tmp 158, Operand.tmp 160, Operand.tmp 162], argTypes := #[22, 27, 36, 22] }, type := 37, pos := "outright.go:135", after := #[{ on := 5, ground := Ground.data }, { on := 6, ground := Ground.data }, { on := 8, ground := Ground.data }, { on := 10, ground := Ground.data }], guard := none }) rfl (fun K hK => ?_) AllReadyH.nil
                        have CN : Hid _ := BX.out u15 SX_u15.out
                        go_simp
                        go_at_call 11
                        refine Calls.mono CN.out ?_
                        rintro e u1511 ⟨rfl, hb⟩
                        have SX_u1511 : Hid (Sub wr u1511) := SX_u15.out.trans (sub_below hb)
                        have BX_u1511 : Hid (Below B2 w u1511) := BX_u15.out.trans (hb.mono (by have := BX_u15.out.size; rw [HB2.out] at this; exact this))
                        have LX_u1511 : Hid (wr.heap.size ≤ u1511.heap.size) := Nat.le_trans LX_u15.out hb.size
                        have HX_u1511 : Hid (u1511.heap[B20]? = some (.cells #[.int .i64 0, .int .i64 0] 33 (0, 0))) := (hb.block _ (Array.getElem?_eq_some_iff.1 HX_u15.out).1).trans HX_u15.out
                        clear CN hb
                        try go_wp2_with fail
                        refine hK.out _ _ ?_ (fun hHeld_11 => ?_)
                        · exact SS.out _ SX_u1511.out
                        clear hK K
                        try simp only [Act.put, List.setIfInBounds_toArray, List.set_cons_zero, List.set_cons_succ]
                        refine wpAnyH_take (i := 12) (oi := { dst := some 151, op := Op.move (Operand.tmp 163), type := 37, pos := "outright.go:135", after := #[{ on := 11, ground := Ground.data }], guard := none }) (v := ?_) rfl (by kernel_rfl) (by kernel_rfl) (by kernel_rfl) (fun _ _ _ h => h) (Or.inl ⟨by rfl, ?_⟩) hHeld_11 ?_
                        rotate_left
                        · (intro w hSw; (try dsimp only at hSw); go_simp; try with_reducible rfl)
                        try simp only [Act.put, List.setIfInBounds_toArray, List.set_cons_zero, List.set_cons_succ]
                        refine wpAnyH_take (i := 13) (oi := { dst := some 164, op := Op.extract (Operand.tmp 151) 0, type := 33, pos := "outright.go:135", after := #[{ on := 12, ground := Ground.data }], guard := none }) (v := ?_) rfl (by kernel_rfl) (by kernel_rfl) (by kernel_rfl) (fun _ _ _ h => h) (Or.inl ⟨by rfl, ?_⟩) hHeld_11 ?_
                        rotate_left
                        · (intro w hSw; (try dsimp only at hSw); go_simp; try with_reducible rfl)
                        try simp only [Act.put, List.setIfInBounds_toArray, List.set_cons_zero, List.set_cons_succ]
                        refine wpAnyH_take (i := 14) (oi := { dst := some 165, op := Op.extract (Operand.tmp 151) 1, type := 4, pos := "outright.go:135", after := #[{ on := 12, ground := Ground.data }, { on := 16, ground := Ground.gcOnly Departure.lateStores }], guard := none }) (v := ?_) rfl (by kernel_rfl) (by kernel_rfl) (by kernel_rfl) (fun _ _ _ h => h) (Or.inl ⟨by rfl, ?_⟩) hHeld_11 ?_
                        rotate_left
                        · (intro w hSw; (try dsimp only at hSw); go_simp; try with_reducible rfl)
                        try simp only [Act.put, List.setIfInBounds_toArray, List.set_cons_zero, List.set_cons_succ]
                        refine wpAnyH_ready (rs := [16]) (by kernel_rfl) (by simp) ?_
                        refine AllReadyH.cons (o := { dst := none, op := Op.store 33 (Operand.tmp 20) (Operand.tmp 164), type := 0, pos := "outright.go:135", after := #[{ on := 15, ground := Ground.data }, { on := 13, ground := Ground.data }, { on := 11, ground := Ground.chain }, { on := 0, ground := Ground.phase }, { on := 1, ground := Ground.phase }, { on := 2, ground := Ground.phase }, { on := 3, ground := Ground.phase }, { on := 4, ground := Ground.phase }, { on := 5, ground := Ground.phase }, { on := 6, ground := Ground.phase }, { on := 7, ground := Ground.phase }, { on := 8, ground := Ground.phase }, { on := 9, ground := Ground.phase }, { on := 10, ground := Ground.phase }, { on := 11, ground := Ground.phase }, { on := 12, ground := Ground.phase }, { on := 13, ground := Ground.phase }, { on := 14, ground := Ground.textOnly Departure.lateStores }, { on := 15, ground := Ground.phase }], guard := none }) rfl (fun K hK => ?_) AllReadyH.nil
                        have m0 : u1511.cell? ⟨B20, 0, none⟩ = some (.int .i64 0) := by simp [World.cell?, HX_u1511.out]
                        have m1 : u1511.cell? ⟨B20, 1, none⟩ = some (.int .i64 0) := by simp [World.cell?, HX_u1511.out]
                        have q0 : u1511.frozen? ⟨B20, 0, none⟩ = false := by simp [World.frozen?, HX_u1511.out]
                        have q1 : u1511.frozen? ⟨B20, 1, none⟩ = false := by simp [World.frozen?, HX_u1511.out]
                        obtain ⟨uE, huE⟩ : ∃ v, v = (u1511.setCell ⟨B20, 0, none⟩ (.int .i64 x)).setCell ⟨B20, 1, none⟩ (.int .i64 y) := ⟨_, rfl⟩
                        have tE : Turn B20 u1511 uE := by rw [huE]; exact (turn_setCell _ _ _ _).trans (turn_setCell _ _ _ _)
                        have SX_uE : Hid (Sub wr uE) := fun q v hq => tE.cell (SX_u1511.out _ _ hq) (by have h1 := World.block_lt_of_cell? _ _ hq; have h2 := LB.out; omega)
                        have BX_uE : Hid (Below B2 w uE) := BX_u1511.out.trans (tE.below (by have := BX_u1511.out.size; rw [HB2.out] at this; exact this) (by have h1 := LB.out; have h2 := INV.out.2.1.size; rw [HB2.out] at h2; omega))
                        go_simp
                        rw [← huE]
                        clear huE m0 m1 q0 q1 tE
                        try go_wp2_with fail
                        refine hK.out _ _ ?_ (fun hHeld_16 => ?_)
                        · exact SS.out _ SX_uE.out
                        clear hK K
                        try simp only [Act.put, List.setIfInBounds_toArray, List.set_cons_zero, List.set_cons_succ]
                        refine wpAnyH_take (i := 17) (oi := { dst := some 21, op := Op.assign (Operand.tmp 165), type := 4, pos := "outright.go:135", after := #[{ on := 14, ground := Ground.data }, { on := 16, ground := Ground.chain }, { on := 0, ground := Ground.phase }, { on := 1, ground := Ground.phase }, { on := 2, ground := Ground.phase }, { on := 3, ground := Ground.phase }, { on := 4, ground := Ground.phase }, { on := 5, ground := Ground.phase }, { on := 6, ground := Ground.phase }, { on := 7, ground := Ground.phase }, { on := 8, ground := Ground.phase }, { on := 9, ground := Ground.phase }, { on := 10, ground := Ground.phase }, { on := 11, ground := Ground.phase }, { on := 12, ground := Ground.phase }, { on := 13, ground := Ground.phase }, { on := 14, ground := Ground.phase }, { on := 15, ground := Ground.phase }, { on := 16, ground := Ground.phase }], guard := none }) (v := ?_) rfl (by kernel_rfl) (by kernel_rfl) (by kernel_rfl) (fun _ _ _ h => h) (Or.inl ⟨by rfl, ?_⟩) hHeld_16 ?_
                        rotate_left
                        · (intro w hSw; (try dsimp only at hSw); go_simp; try with_reducible rfl)
                        try simp only [Act.put, List.setIfInBounds_toArray, List.set_cons_zero, List.set_cons_succ]
                        refine wpAnyH_done (by kernel_rfl) ?_ _
                        have hfe : l.find? (badH sl (isV m r) hv) = some (x, y) := find_at HX.out HBB.out INV.out.2.2
                        have hpp : (px, py) = (x, y) := by have h := HPX.out; rw [hfe] at h; exact h.symm
                        obtain ⟨rfl, rfl⟩ := Prod.mk.inj hpp
                        have ZZ : Hid (∀ w', Sub uE w' → w'.cell? ⟨B10, 0, none⟩ = some (.int .i64 px) ∧ w'.cell? ⟨B10, 1, none⟩ = some (.int .i64 py) ∧ w'.cell? ⟨B2, 0, none⟩ = some (.slice (some ⟨b1, o1, none⟩) nL cL) ∧ w'.cell? ⟨b1, o1 + j * 2, none⟩ = some (.int .i64 px) ∧ w'.cell? ⟨b1, o1 + j * 2 + 1, none⟩ = some (.int .i64 py)) := fun w' h => by
                          have s := (INV.out.1.trans SX_uE.out).trans h
                          obtain ⟨bq, oq, eq, cq, dq'⟩ := PL.out.sub ((SWS.out.trans SF.out).trans s) j _ HX.out
                          cases eq
                          exact ⟨s _ _ X10.out.1, s _ _ X10.out.2, (KF.out w' s).1, cq, dq'⟩
                        clear hfe SS BX HBB
                        go_wp2_with fail
                        refine wp_region_held_drew (S := fun w' => w'.cell? ⟨B10, 0, none⟩ = some (.int .i64 px) ∧ w'.cell? ⟨B10, 1, none⟩ = some (.int .i64 py) ∧ w'.cell? ⟨B2, 0, none⟩ = some (.slice (some ⟨b1, o1, none⟩) nL cL) ∧ w'.cell? ⟨b1, o1 + j * 2, none⟩ = some (.int .i64 px) ∧ w'.cell? ⟨b1, o1 + j * 2 + 1, none⟩ = some (.int .i64 py)) (by kernel_rfl) ?_ (fun hHeld => ?_)
                        · exact ZZ.out _ (fun _ _ h => h)
                        refine wpAnyH_take (i := 0) (oi := { dst := some 167, op := Op.move (Operand.tmp 11), type := 4, pos := "outright.go:137", after := #[], guard := none }) (v := ?_) rfl (by kernel_rfl) (by kernel_rfl) (by kernel_rfl) (fun _ _ _ h => h) (Or.inl ⟨by rfl, ?_⟩) hHeld ?_
                        rotate_left
                        · (intro w hSw; (try dsimp only at hSw); go_simp; try with_reducible rfl)
                        try simp only [Act.put, List.setIfInBounds_toArray, List.set_cons_zero, List.set_cons_succ]
                        refine wpAnyH_take (i := 1) (oi := { dst := some 168, op := Op.unOp UnOp.not 4 (Operand.tmp 167), type := 4, pos := "outright.go:137", after := #[{ on := 0, ground := Ground.data }], guard := none }) (v := ?_) rfl (by kernel_rfl) (by kernel_rfl) (by kernel_rfl) (fun _ _ _ h => h) (Or.inl ⟨by rfl, ?_⟩) hHeld ?_
                        rotate_left
                        · (intro w hSw; (try dsimp only at hSw); go_simp; try with_reducible rfl)
                        try simp only [Act.put, List.setIfInBounds_toArray, List.set_cons_zero, List.set_cons_succ]
                        refine wpAnyH_take (i := 2) (oi := { dst := some 169, op := Op.move (Operand.tmp 168), type := 4, pos := "outright.go:137", after := #[{ on := 1, ground := Ground.data }], guard := none }) (v := ?_) rfl (by kernel_rfl) (by kernel_rfl) (by kernel_rfl) (fun _ _ _ h => h) (Or.inl ⟨by rfl, ?_⟩) hHeld ?_
                        rotate_left
                        · (intro w hSw; (try dsimp only at hSw); go_simp; try with_reducible rfl)
                        try simp only [Act.put, List.setIfInBounds_toArray, List.set_cons_zero, List.set_cons_succ]
                        refine wpAnyH_take (i := 3) (oi := { dst := some 170, op := Op.load 33 (Operand.tmp 10), type := 33, pos := "outright.go:137", after := #[{ on := 2, ground := Ground.guard }], guard := some (2, false) }) (v := ?_) rfl (by kernel_rfl) (by kernel_rfl) (by kernel_rfl) (fun _ _ _ h => h) (Or.inl ⟨by rfl, ?_⟩) hHeld ?_
                        rotate_left
                        · (intro w hSw; (try dsimp only at hSw); go_simp; try with_reducible rfl)
                        try simp only [Act.put, List.setIfInBounds_toArray, List.set_cons_zero, List.set_cons_succ]
                        refine wpAnyH_take (i := 4) (oi := { dst := some 171, op := Op.fieldAddr 25 (Operand.tmp 2) 0, type := 0, pos := "outright.go:137", after := #[{ on := 2, ground := Ground.guard }], guard := some (2, false) }) (v := ?_) rfl (by kernel_rfl) (by kernel_rfl) (by kernel_rfl) (fun _ _ _ h => h) (Or.inl ⟨by rfl, ?_⟩) hHeld ?_
                        rotate_left
                        · (intro w hSw; (try dsimp only at hSw); go_simp; try with_reducible rfl)
                        try simp only [Act.put, List.setIfInBounds_toArray, List.set_cons_zero, List.set_cons_succ]
                        refine wpAnyH_take (i := 5) (oi := { dst := some 172, op := Op.load 22 (Operand.tmp 171), type := 22, pos := "outright.go:137", after := #[{ on := 4, ground := Ground.data }, { on := 2, ground := Ground.guard }], guard := some (2, false) }) (v := ?_) rfl (by kernel_rfl) (by kernel_rfl) (by kernel_rfl) (fun _ _ _ h => h) (Or.inl ⟨by rfl, ?_⟩) hHeld ?_
                        rotate_left
                        · (intro w hSw; (try dsimp only at hSw); go_simp; try with_reducible rfl)
                        try simp only [Act.put, List.setIfInBounds_toArray, List.set_cons_zero, List.set_cons_succ]
                        refine wpAnyH_take (i := 6) (oi := { dst := some 173, op := Op.move (Operand.tmp 19), type := 3, pos := "outright.go:137", after := #[{ on := 2, ground := Ground.guard }], guard := some (2, false) }) (v := ?_) rfl (by kernel_rfl) (by kernel_rfl) (by kernel_rfl) (fun _ _ _ h => h) (Or.inl ⟨by rfl, ?_⟩) hHeld ?_
                        rotate_left
                        · (intro w hSw; (try dsimp only at hSw); go_simp; try with_reducible rfl)
                        try simp only [Act.put, List.setIfInBounds_toArray, List.set_cons_zero, List.set_cons_succ]
                        refine wpAnyH_take (i := 7) (oi := { dst := some 174, op := Op.indexAddr 22 (Operand.tmp 172) (Operand.tmp 173), type := 0, pos := "outright.go:137", after := #[{ on := 5, ground := Ground.data }, { on := 6, ground := Ground.data }, { on := 2, ground := Ground.guard }], guard := some (2, false) }) (v := ?_) rfl (by kernel_rfl) (by kernel_rfl) (by kernel_rfl) (fun _ _ _ h => h) (Or.inl ⟨by rfl, ?_⟩) hHeld ?_
                        rotate_left
                        · (intro w hSw; (try dsimp only at hSw); go_simp; try with_reducible rfl)
                        try simp only [Act.put, List.setIfInBounds_toArray, List.set_cons_zero, List.set_cons_succ]
                        refine wpAnyH_take (i := 8) (oi := { dst := some 175, op := Op.load 33 (Operand.tmp 174), type := 33, pos := "outright.go:137", after := #[{ on := 7, ground := Ground.data }, { on := 2, ground := Ground.guard }], guard := some (2, false) }) (v := ?_) rfl (by kernel_rfl) (by kernel_rfl) (by kernel_rfl) (fun _ _ _ h => h) (Or.inl ⟨by rfl, ?_⟩) hHeld ?_
                        rotate_left
                        · (intro w hSw; (try dsimp only at hSw); go_simp; try with_reducible rfl)
                        try simp only [Act.put, List.setIfInBounds_toArray, List.set_cons_zero, List.set_cons_succ]
                        refine wpAnyH_take (i := 9) (oi := { dst := some 176, op := Op.binOp BinOp.neq 33 (Operand.tmp 170) (Operand.tmp 175) 33, type := 4, pos := "outright.go:137", after := #[{ on := 3, ground := Ground.data }, { on := 8, ground := Ground.data }, { on := 2, ground := Ground.guard }], guard := some (2, false) }) (v := ?_) rfl (by kernel_rfl) (by kernel_rfl) (by kernel_rfl) (fun _ _ _ h => h) (Or.inl ⟨by rfl, ?_⟩) hHeld ?_
                        rotate_left
                        · (intro w hSw; (try dsimp only at hSw); go_simp; try with_reducible rfl)
                        try simp only [Act.put, List.setIfInBounds_toArray, List.set_cons_zero, List.set_cons_succ]
                        refine wpAnyH_take (i := 10) (oi := { dst := some 177, op := Op.pick (Operand.tmp 169) (Operand.const (Value.bool true)) (Operand.tmp 176), type := 4, pos := "outright.go:137", after := #[{ on := 2, ground := Ground.data }, { on := 9, ground := Ground.data }], guard := none }) (v := ?_) rfl (by kernel_rfl) (by kernel_rfl) (by kernel_rfl) (fun _ _ _ h => h) (Or.inl ⟨by rfl, ?_⟩) hHeld ?_
                        rotate_left
                        · (intro w hSw; (try dsimp only at hSw); go_simp; try with_reducible rfl)
                        try simp only [Act.put, List.setIfInBounds_toArray, List.set_cons_zero, List.set_cons_succ]
                        refine wpAnyH_done (by kernel_rfl) ?_ _
                        have INV5 : Hid (Sub wF uE.drew ∧ Below B2 w uE.drew) := ⟨INV.out.1.trans SX_uE.out, ⟨BX_uE.out.os, BX_uE.out.tape, BX_uE.out.output, BX_uE.out.size, BX_uE.out.block⟩⟩
                        obtain ⟨wN, hwN⟩ : ∃ wN, wN = uE.drew := ⟨_, rfl⟩
                        rw [← hwN] at INV5
                        clear INV ZZ hj hlt n1 f1 f2 f3 f4 f5 f6
                        go_wp2
                        rw [← hwN]
                        clear hwN
                        go_ret
                        exact ⟨rfl, INV5.out.2⟩
                  · have n1 : ¬ (j : Int) < (nL : Int) := by omega
                    exfalso
                    have hall := INV.out.2.2
                    rw [List.take_of_length_le (by rw [HL.out]; omega)] at hall
                    have h := HFB.out
                    rw [find_none hall] at h
                    cases h
              · have hbf : badM sl (isV m r) (x, y) = false := by
                  rw [find_one] at hf2
                  split at hf2
                  · cases hf2
                  · rename_i hh; exact Bool.eq_false_iff.2 hh
                have INV3 : Hid (Sub wF (wH.alloc (.cells #[.int .i64 x2, .int .i64 y2] 33)) ∧ Below B2 w (wH.alloc (.cells #[.int .i64 x2, .int .i64 y2] 33)) ∧ ∀ q ∈ l.take (j + 1), badM sl (isV m r) q = false) := ⟨SH.out, BH.out, fun q hq => by
                  rw [take_pair HX.out, List.mem_append] at hq
                  rcases hq with hq | hq
                  · exact INV.out.2.2 q hq
                  · simp at hq; rw [hq]; exact hbf⟩
                clear hbf hf2 INV BH SH
                go_wp2
                go_roundw
                case rel => exact ⟨j + 1, by omega, by go_num, INV3.out⟩
                case measure => simp [intOf]; omega
            · have n1 : ¬ (j : Int) < (nL : Int) := by omega
              have hall := INV.out.2.2
              rw [List.take_of_length_le (by rw [HL.out]; omega)] at hall
              rw [find_none hall] at hfd
              cases hfd
        · subst hfine
          obtain ⟨rfl, rfl⟩ := Prod.mk.inj hz
          have z80 : wG.cell? ⟨B8, 0, none⟩ = some (.int .i64 0) := INV.out.1 _ _ X8.out.1
          have z81 : wG.cell? ⟨B8, 1, none⟩ = some (.int .i64 0) := INV.out.1 _ _ X8.out.2
          rcases al
          · obtain ⟨k0, k1, k2, k3, k4, k5⟩ := KF.out wG INV.out.1
            go_wp2_with fail
            clear k0 k1 k2 k3 k4 k5 z80 z81 n1
            go_loopw [14] (fun iv wx => ∃ j : Nat, j ≤ nL ∧ iv = .int .i64 j ∧ Hid (Sub wF wx ∧ Below B2 w wx ∧ ∀ q ∈ l.take j, badM sl (isV m r) q = false)) (fun iv _ => nL - (intOf iv).toNat)
            case atStart => exact ⟨0, Nat.zero_le _, rfl, INV.out.1, INV.out.2, fun q hq => by simp at hq⟩
            case round =>
              clear INV
              obtain ⟨j, hj, rfl, INV⟩ := hrel
              obtain ⟨k0, k1, k2, k3, k4, k5⟩ := KF.out wr INV.out.1
              by_cases hlt : j < nL
              · have n1 : (j : Int) < (nL : Int) := by omega
                obtain ⟨⟨x, y⟩, hx⟩ : ∃ x, l[j]? = some x := ⟨l[j]'(by rw [HL.out]; exact hlt), List.getElem?_eq_getElem _⟩
                obtain ⟨b1, o1, rfl, c1, d1⟩ := PL.out.sub ((SWS.out.trans SF.out).trans INV.out.1) j _ hx
                have HX : Hid (l[j]? = some (x, y)) := hx
                have f1 : IntKind.i64.wrap ((j : Int) + 1) = ((j + 1 : Nat) : Int) := by rw [IntWalk.i64_in _ (by omega)]; omega
                have f2 : j + 1 - j = 1 := by omega
                have f3 : j + 1 ≤ cL := by omega
                have f4 : j ≤ j + 1 := by omega
                have CX : Hid _ := CAR.out wr (some ⟨b1, o1 + j * 2, none⟩) 1 (cL - j) [(x, y)] (SF.out.trans INV.out.1) rfl (by omega) (fun q hq => by simp at hq; rw [hq]; exact List.mem_of_getElem? hx) (pairs_one c1 d1)
                clear hx
                go_wp2_with fail
                refine Calls.mono CX.out ?_
                intro e wH hcar
                obtain ⟨hbH, ax2, cx2, mm2, ⟨x2, y2⟩, may, rfl, hPm2, hlm2, hask2⟩ := carryU hcar
                have BH : Hid (Below B2 w (wH.alloc (.cells #[.int .i64 x2, .int .i64 y2] 33))) := (INV.out.2.1.trans (hbH.mono (by have := INV.out.2.1.size; rw [HB2.out] at this; exact this))).alloc (by have := INV.out.2.1.size; have := hbH.size; have := HB2.out; omega) _
                have SH : Hid (Sub wF (wH.alloc (.cells #[.int .i64 x2, .int .i64 y2] 33))) := (INV.out.1.trans (sub_below hbH)).trans (sub_below (below_alloc _ _))
                unfold encP
                clear CX hcar hbH hPm2 hlm2 k0 k1 k2 k3 k4 k5
                rcases hask2 with ⟨rfl, _, hf2⟩ | ⟨rfl, _, hf2, _⟩
                · have hbt : badM sl (isV m r) (x, y) = true := by
                    rw [find_one] at hf2
                    split at hf2
                    · assumption
                    · cases hf2
                  exact absurd hbt (by rw [List.find?_eq_none.1 hfn _ (List.mem_of_getElem? HX.out) |> Bool.eq_false_iff.2]; simp)
                · have hbf : badM sl (isV m r) (x, y) = false := by
                    rw [find_one] at hf2
                    split at hf2
                    · cases hf2
                    · rename_i hh; exact Bool.eq_false_iff.2 hh
                  have INV3 : Hid (Sub wF (wH.alloc (.cells #[.int .i64 x2, .int .i64 y2] 33)) ∧ Below B2 w (wH.alloc (.cells #[.int .i64 x2, .int .i64 y2] 33)) ∧ ∀ q ∈ l.take (j + 1), badM sl (isV m r) q = false) := ⟨SH.out, BH.out, fun q hq => by
                    rw [take_pair HX.out, List.mem_append] at hq
                    rcases hq with hq | hq
                    · exact INV.out.2.2 q hq
                    · simp at hq; rw [hq]; exact hbf⟩
                  clear hbf hf2 INV BH SH
                  go_wp2
                  go_roundw
                  case rel => exact ⟨j + 1, by omega, by go_num, INV3.out⟩
                  case measure => simp [intOf]; omega
              · have n1 : ¬ (j : Int) < (nL : Int) := by omega
                have INV3 : Hid (Sub wF wr ∧ Below B2 w wr) := ⟨INV.out.1, INV.out.2.1⟩
                obtain ⟨wJ, hwJ⟩ : ∃ wJ, wJ = wr := ⟨_, rfl⟩
                subst hwJ
                clear INV hj hlt
                go_wp2_with fail
                clear k0 k1 k2 k3 k4 k5 n1
                go_loopw [19] (fun iv wx => ∃ j : Nat, j ≤ nL ∧ iv = .int .i64 j ∧ Hid (Sub wF wx ∧ Below B2 w wx ∧ ∀ q ∈ l.take j, badH sl (isV m r) hv q = false)) (fun iv _ => nL - (intOf iv).toNat)
                case atStart => exact ⟨0, Nat.zero_le _, rfl, INV3.out.1, INV3.out.2, fun q hq => by simp at hq⟩
                case round =>
                  clear INV3
                  obtain ⟨j, hj, rfl, INV⟩ := hrel
                  obtain ⟨k0, k1, k2, k3, k4, k5⟩ := KF.out wr INV.out.1
                  by_cases hlt : j < nL
                  · have n1 : (j : Int) < (nL : Int) := by omega
                    obtain ⟨⟨x, y⟩, hx⟩ : ∃ x, l[j]? = some x := ⟨l[j]'(by rw [HL.out]; exact hlt), List.getElem?_eq_getElem _⟩
                    obtain ⟨b1, o1, rfl, c1, d1⟩ := PL.out.sub ((SWS.out.trans SF.out).trans INV.out.1) j _ hx
                    have HX : Hid (l[j]? = some (x, y)) := hx
                    have f1 : IntKind.i64.wrap ((j : Int) + 1) = ((j + 1 : Nat) : Int) := by rw [IntWalk.i64_in _ (by omega)]; omega
                    have f2 : j + 1 - j = 1 := by omega
                    have f3 : j + 1 ≤ cL := by omega
                    have f4 : j ≤ j + 1 := by omega
                    have f5 : ((0 : Int) ≤ (j : Int) + 1 ∧ (j : Int) + 1 ≤ (cL : Int)) = True := eq_true ⟨by omega, by omega⟩
                    have f6 : (cL = j) = False := eq_false (by omega)
                    have SS : Hid (∀ w', Sub wr w' → w'.cell? ⟨B2, 0, none⟩ = some (.slice (some ⟨b1, o1, none⟩) nL cL) ∧ w'.cell? ⟨B2, 1, none⟩ = some (.slice a0 n0 c0) ∧ w'.cell? ⟨B2, 2, none⟩ = some (.slice aH nH cH) ∧ w'.cell? ⟨B2, 3, none⟩ = some (.int .i64 m) ∧ w'.cell? ⟨B2, 4, none⟩ = some (.int .i64 r) ∧ w'.cell? ⟨B5, 0, none⟩ = some (.slice aS ks cs)) := fun w' h => KF.out w' (INV.out.1.trans h)
                    have SX_0 : Hid (Sub wr wr.drew) := fun _ _ h => h
                    have BX_0 : Hid (Below B2 w wr.drew) := ⟨INV.out.2.1.os, INV.out.2.1.tape, INV.out.2.1.output, INV.out.2.1.size, INV.out.2.1.block⟩
                    have LX_0 : Hid (wr.heap.size ≤ wr.drew.heap.size) := Nat.le_refl _
                    have BXG : Hid (∀ W, Sub wr W → Calls Tryz.prog 11 #[.slice (some ⟨b1, o1 + j * 2, none⟩) 1 (cL - j), .agg #[.slice aS ks cs], .func (.func 10) #[.agg #[.slice (some ⟨b1, o1, none⟩) nL cL, .slice a0 n0 c0, .slice aH nH cH, .int .i64 m, .int .i64 r]] #[], .slice aH nH cH] W fun e w' => BreachIs W w' e sl (isV m r) [(x, y)] hv) := fun W hW => BRE.out W (some ⟨b1, o1 + j * 2, none⟩) 1 (cL - j) [(x, y)] aH nH cH hv ((SF.out.trans INV.out.1).trans hW) rfl (by omega) (fun q hq => by simp at hq; rw [hq]; exact List.mem_of_getElem? hx) (pairs_one (hW _ _ c1) (hW _ _ d1)) HH.out (by omega) DD.out.wh (PH.out.sub (((SWS.out.trans SF.out).trans INV.out.1).trans hW))
                    rcases hbb : badH sl (isV m r) hv (x, y)
                    · have HBB : Hid (badH sl (isV m r) hv (x, y) = false) := hbb
                      have BX : Hid (∀ W, Sub wr W → Calls Tryz.prog 11 #[.slice (some ⟨b1, o1 + j * 2, none⟩) 1 (cL - j), .agg #[.slice aS ks cs], .func (.func 10) #[.agg #[.slice (some ⟨b1, o1, none⟩) nL cL, .slice a0 n0 c0, .slice aH nH cH, .int .i64 m, .int .i64 r]] #[], .slice aH nH cH] W fun e w' => e = .returned (.tuple #[.agg #[.int .i64 0, .int .i64 0], .bool false]) ∧ Below W.heap.size W w') := fun W hW => (BXG.out W hW).mono fun e w' h => by
                        obtain ⟨h1, h2⟩ := h
                        rw [find_one, hbb] at h1
                        exact ⟨h1, h2⟩
                      clear hx hbb BXG c1 d1
                      go_wp2_with fail
                      clear k0 k1 k2 k3 k4 k5
                      refine wp_region_held_drew (S := fun w' => w'.cell? ⟨B2, 0, none⟩ = some (.slice (some ⟨b1, o1, none⟩) nL cL) ∧ w'.cell? ⟨B2, 1, none⟩ = some (.slice a0 n0 c0) ∧ w'.cell? ⟨B2, 2, none⟩ = some (.slice aH nH cH) ∧ w'.cell? ⟨B2, 3, none⟩ = some (.int .i64 m) ∧ w'.cell? ⟨B2, 4, none⟩ = some (.int .i64 r) ∧ w'.cell? ⟨B5, 0, none⟩ = some (.slice aS ks cs)) (by kernel_rfl) ?_ (fun hHeld => ?_)
                      · exact SS.out _ (fun _ _ h => h)
                      refine wpAnyH_take (i := 0) (oi := { dst := some 152, op := Op.fieldAddr 25 (Operand.tmp 2) 0, type := 0, pos := "outright.go:135", after := #[], guard := none }) (v := ?_) rfl (by kernel_rfl) (by kernel_rfl) (by kernel_rfl) (fun _ _ _ h => h) (Or.inl ⟨by rfl, ?_⟩) hHeld ?_
                      rotate_left
                      · (intro w hSw; (try dsimp only at hSw); go_simp; try with_reducible rfl)
                      try simp only [Act.put, List.setIfInBounds_toArray, List.set_cons_zero, List.set_cons_succ]
                      refine wpAnyH_take (i := 1) (oi := { dst := some 153, op := Op.load 22 (Operand.tmp 152), type := 22, pos := "outright.go:135", after := #[{ on := 0, ground := Ground.data }], guard := none }) (v := ?_) rfl (by kernel_rfl) (by kernel_rfl) (by kernel_rfl) (fun _ _ _ h => h) (Or.inl ⟨by rfl, ?_⟩) hHeld ?_
                      rotate_left
                      · (intro w hSw; (try dsimp only at hSw); go_simp; try with_reducible rfl)
                      try simp only [Act.put, List.setIfInBounds_toArray, List.set_cons_zero, List.set_cons_succ]
                      refine wpAnyH_take (i := 2) (oi := { dst := some 154, op := Op.move (Operand.tmp 19), type := 3, pos := "outright.go:135", after := #[], guard := none }) (v := ?_) rfl (by kernel_rfl) (by kernel_rfl) (by kernel_rfl) (fun _ _ _ h => h) (Or.inl ⟨by rfl, ?_⟩) hHeld ?_
                      rotate_left
                      · (intro w hSw; (try dsimp only at hSw); go_simp; try with_reducible rfl)
                      try simp only [Act.put, List.setIfInBounds_toArray, List.set_cons_zero, List.set_cons_succ]
                      refine wpAnyH_take (i := 3) (oi := { dst := some 155, op := Op.move (Operand.tmp 19), type := 3, pos := "outright.go:135", after := #[], guard := none }) (v := ?_) rfl (by kernel_rfl) (by kernel_rfl) (by kernel_rfl) (fun _ _ _ h => h) (Or.inl ⟨by rfl, ?_⟩) hHeld ?_
                      rotate_left
                      · (intro w hSw; (try dsimp only at hSw); go_simp; try with_reducible rfl)
                      try simp only [Act.put, List.setIfInBounds_toArray, List.set_cons_zero, List.set_cons_succ]
                      refine wpAnyH_take (i := 4) (oi := { dst := some 156, op := Op.binOp BinOp.add 3 (Operand.tmp 155) (Operand.const (Value.int IntKind.i64 1)) 3, type := 3, pos := "outright.go:135", after := #[{ on := 3, ground := Ground.data }], guard := none }) (v := ?_) rfl (by kernel_rfl) (by kernel_rfl) (by kernel_rfl) (fun _ _ _ h => h) (Or.inl ⟨by rfl, ?_⟩) hHeld ?_
                      rotate_left
                      · (intro w hSw; (try dsimp only at hSw); go_simp; try with_reducible rfl)
                      try simp only [Act.put, List.setIfInBounds_toArray, List.set_cons_zero, List.set_cons_succ]
                      refine wpAnyH_take (i := 5) (oi := { dst := some 157, op := Op.slice 22 (Operand.tmp 153) (some (Operand.tmp 154)) (some (Operand.tmp 156)) none, type := 22, pos := "outright.go:135", after := #[{ on := 1, ground := Ground.data }, { on := 2, ground := Ground.data }, { on := 4, ground := Ground.data }], guard := none }) (v := ?_) rfl (by kernel_rfl) (by kernel_rfl) (by kernel_rfl) (fun _ _ _ h => h) (Or.inl ⟨by rfl, ?_⟩) hHeld ?_
                      rotate_left
                      · (intro w hSw; (try dsimp only at hSw); go_simp; try with_reducible rfl)
                      try simp only [Act.put, List.setIfInBounds_toArray, List.set_cons_zero, List.set_cons_succ]
                      refine wpAnyH_take (i := 6) (oi := { dst := some 158, op := Op.load 27 (Operand.tmp 5), type := 27, pos := "outright.go:135", after := #[], guard := none }) (v := ?_) rfl (by kernel_rfl) (by kernel_rfl) (by kernel_rfl) (fun _ _ _ h => h) (Or.inl ⟨by rfl, ?_⟩) hHeld ?_
                      rotate_left
                      · (intro w hSw; (try dsimp only at hSw); go_simp; try with_reducible rfl)
                      try simp only [Act.put, List.setIfInBounds_toArray, List.set_cons_zero, List.set_cons_succ]
                      refine wpAnyH_take (i := 7) (oi := { dst := some 159, op := Op.load 25 (Operand.tmp 2), type := 25, pos := "outright.go:135", after := #[], guard := none }) (v := ?_) rfl (by kernel_rfl) (by kernel_rfl) (by kernel_rfl) (fun _ _ _ h => h) (Or.inl ⟨by rfl, ?_⟩) hHeld ?_
                      rotate_left
                      · (intro w hSw; (try dsimp only at hSw); go_simp; try with_reducible rfl)
                      try simp only [Act.put, List.setIfInBounds_toArray, List.set_cons_zero, List.set_cons_succ]
                      refine wpAnyH_take (i := 8) (oi := { dst := some 160, op := Op.makeFunc (Fn.func 10) #[Operand.tmp 159] #[], type := 36, pos := "outright.go:135", after := #[{ on := 7, ground := Ground.data }], guard := none }) (v := ?_) rfl (by kernel_rfl) (by kernel_rfl) (by kernel_rfl) (fun _ _ _ h => h) (Or.inl ⟨by rfl, ?_⟩) hHeld ?_
                      rotate_left
                      · (intro w hSw; (try dsimp only at hSw); go_simp; try with_reducible rfl)
                      try simp only [Act.put, List.setIfInBounds_toArray, List.set_cons_zero, List.set_cons_succ]
                      refine wpAnyH_take (i := 9) (oi := { dst := some 161, op := Op.fieldAddr 25 (Operand.tmp 2) 2, type := 0, pos := "outright.go:135", after := #[], guard := none }) (v := ?_) rfl (by kernel_rfl) (by kernel_rfl) (by kernel_rfl) (fun _ _ _ h => h) (Or.inl ⟨by rfl, ?_⟩) hHeld ?_
                      rotate_left
                      · (intro w hSw; (try dsimp only at hSw); go_simp; try with_reducible rfl)
                      try simp only [Act.put, List.setIfInBounds_toArray, List.set_cons_zero, List.set_cons_succ]
                      refine wpAnyH_take (i := 10) (oi := { dst := some 162, op := Op.load 22 (Operand.tmp 161), type := 22, pos := "outright.go:135", after := #[{ on := 9, ground := Ground.data }], guard := none }) (v := ?_) rfl (by kernel_rfl) (by kernel_rfl) (by kernel_rfl) (fun _ _ _ h => h) (Or.inl ⟨by rfl, ?_⟩) hHeld ?_
                      rotate_left
                      · (intro w hSw; (try dsimp only at hSw); go_simp; try with_reducible rfl)
                      try simp only [Act.put, List.setIfInBounds_toArray, List.set_cons_zero, List.set_cons_succ]
                      refine wpAnyH_ready (rs := [11, 15]) (by kernel_rfl) (by simp) ?_
                      refine AllReadyH.cons (o := { dst := some 163, op := Op.call { callee := Callee.value (Operand.func 11), args := #[Operand.tmp 157, Operand.tmp 158, Operand.tmp 160, Operand.tmp 162], argTypes := #[22, 27, 36, 22] }, type := 37, pos := "outright.go:135", after := #[{ on := 5, ground := Ground.data }, { on := 6, ground := Ground.data }, { on := 8, ground := Ground.data }, { on := 10, ground := Ground.data }], guard := none }) rfl (fun K hK => ?_) (AllReadyH.cons (o := { dst := some 20, op := Op.alloc 33, type := 0, pos := "outright.go:135", after := #[], guard := none }) rfl (fun K hK => ?_) AllReadyH.nil)
                      · have CN : Hid _ := BX.out wr.drew SX_0.out
                        go_simp
                        go_at_call 11
                        refine Calls.mono CN.out ?_
                        rintro e u11 ⟨rfl, hb⟩
                        have SX_u11 : Hid (Sub wr u11) := SX_0.out.trans (sub_below hb)
                        have BX_u11 : Hid (Below B2 w u11) := BX_0.out.trans (hb.mono (by have := BX_0.out.size; rw [HB2.out] at this; exact this))
                        have LX_u11 : Hid (wr.heap.size ≤ u11.heap.size) := Nat.le_trans LX_0.out hb.size
                        clear CN hb
                        try go_wp2_with fail
                        refine hK.out _ _ ?_ (fun hHeld_11 => ?_)
                        · exact SS.out _ SX_u11.out
                        clear hK K
                        try simp only [Act.put, List.setIfInBounds_toArray, List.set_cons_zero, List.set_cons_succ]
                        refine wpAnyH_take (i := 12) (oi := { dst := some 151, op := Op.move (Operand.tmp 163), type := 37, pos := "outright.go:135", after := #[{ on := 11, ground := Ground.data }], guard := none }) (v := ?_) rfl (by kernel_rfl) (by kernel_rfl) (by kernel_rfl) (fun _ _ _ h => h) (Or.inl ⟨by rfl, ?_⟩) hHeld_11 ?_
                        rotate_left
                        · (intro w hSw; (try dsimp only at hSw); go_simp; try with_reducible rfl)
                        try simp only [Act.put, List.setIfInBounds_toArray, List.set_cons_zero, List.set_cons_succ]
                        refine wpAnyH_take (i := 13) (oi := { dst := some 164, op := Op.extract (Operand.tmp 151) 0, type := 33, pos := "outright.go:135", after := #[{ on := 12, ground := Ground.data }], guard := none }) (v := ?_) rfl (by kernel_rfl) (by kernel_rfl) (by kernel_rfl) (fun _ _ _ h => h) (Or.inl ⟨by rfl, ?_⟩) hHeld_11 ?_
                        rotate_left
                        · (intro w hSw; (try dsimp only at hSw); go_simp; try with_reducible rfl)
                        try simp only [Act.put, List.setIfInBounds_toArray, List.set_cons_zero, List.set_cons_succ]
                        refine wpAnyH_take (i := 14) (oi := { dst := some 165, op := Op.extract (Operand.tmp 151) 1, type := 4, pos := "outright.go:135", after := #[{ on := 12, ground := Ground.data }, { on := 16, ground := Ground.gcOnly Departure.lateStores }], guard := none }) (v := ?_) rfl (by kernel_rfl) (by kernel_rfl) (by kernel_rfl) (fun _ _ _ h => h) (Or.inl ⟨by rfl, ?_⟩) hHeld_11 ?_
                        rotate_left
                        · (intro w hSw; (try dsimp only at hSw); go_simp; try with_reducible rfl)
                        try simp only [Act.put, List.setIfInBounds_toArray, List.set_cons_zero, List.set_cons_succ]
                        refine wpAnyH_ready (rs := [15]) (by kernel_rfl) (by simp) ?_
                        refine AllReadyH.cons (o := { dst := some 20, op := Op.alloc 33, type := 0, pos := "outright.go:135", after := #[], guard := none }) rfl (fun K hK => ?_) AllReadyH.nil
                        obtain ⟨u1115, hnw⟩ : ∃ v, v = u11.alloc (.cells #[.int .i64 0, .int .i64 0] 33) := ⟨_, rfl⟩
                        have bnw : Below u11.heap.size u11 u1115 := by rw [hnw]; exact below_alloc _ _
                        have SX_u1115 : Hid (Sub wr u1115) := SX_u11.out.trans (sub_below bnw)
                        have BX_u1115 : Hid (Below B2 w u1115) := BX_u11.out.trans ((show Below u11.heap.size u11 u1115 from ⟨bnw.os, bnw.tape, bnw.output, bnw.size, bnw.block⟩).mono (by have := BX_u11.out.size; rw [HB2.out] at this; exact this))
                        have HX_u11150 : Hid (u1115.heap[u11.heap.size]? = some (.cells #[.int .i64 0, .int .i64 0] 33 (0, 0))) := by rw [hnw]; exact World.alloc_heap_new u11 (.cells #[.int .i64 0, .int .i64 0] 33)
                        have LX_u1115 : Hid (wr.heap.size ≤ u1115.heap.size) := Nat.le_trans LX_u11.out bnw.size
                        have LB20 : Hid (wr.heap.size ≤ u11.heap.size) := LX_u11.out
                        go_simp
                        try rw [← hnw]
                        clear bnw hnw
                        obtain ⟨B20, hB20⟩ : ∃ B, u11.heap.size = B := ⟨_, rfl⟩
                        rw [hB20] at HX_u11150 ⊢
                        have HX_u1115 : Hid (u1115.heap[B20]? = some (.cells #[.int .i64 0, .int .i64 0] 33 (0, 0))) := HX_u11150.out
                        have LB : Hid (wr.heap.size ≤ B20) := by show wr.heap.size ≤ B20; rw [← hB20]; exact LB20.out
                        clear hB20 HX_u11150 LB20
                        try go_wp2_with fail
                        refine hK.out _ _ ?_ (fun hHeld_15 => ?_)
                        · exact SS.out _ SX_u1115.out
                        clear hK K
                        try simp only [Act.put, List.setIfInBounds_toArray, List.set_cons_zero, List.set_cons_succ]
                        refine wpAnyH_ready (rs := [16]) (by kernel_rfl) (by simp) ?_
                        refine AllReadyH.cons (o := { dst := none, op := Op.store 33 (Operand.tmp 20) (Operand.tmp 164), type := 0, pos := "outright.go:135", after := #[{ on := 15, ground := Ground.data }, { on := 13, ground := Ground.data }, { on := 11, ground := Ground.chain }, { on := 0, ground := Ground.phase }, { on := 1, ground := Ground.phase }, { on := 2, ground := Ground.phase }, { on := 3, ground := Ground.phase }, { on := 4, ground := Ground.phase }, { on := 5, ground := Ground.phase }, { on := 6, ground := Ground.phase }, { on := 7, ground := Ground.phase }, { on := 8, ground := Ground.phase }, { on := 9, ground := Ground.phase }, { on := 10, ground := Ground.phase }, { on := 11, ground := Ground.phase }, { on := 12, ground := Ground.phase }, { on := 13, ground := Ground.phase }, { on := 14, ground := Ground.textOnly Departure.lateStores }, { on := 15, ground := Ground.phase }], guard := none }) rfl (fun K hK => ?_) AllReadyH.nil
                        have m0 : u1115.cell? ⟨B20, 0, none⟩ = some (.int .i64 0) := by simp [World.cell?, HX_u1115.out]
                        have m1 : u1115.cell? ⟨B20, 1, none⟩ = some (.int .i64 0) := by simp [World.cell?, HX_u1115.out]
                        have q0 : u1115.frozen? ⟨B20, 0, none⟩ = false := by simp [World.frozen?, HX_u1115.out]
                        have q1 : u1115.frozen? ⟨B20, 1, none⟩ = false := by simp [World.frozen?, HX_u1115.out]
                        obtain ⟨uE, huE⟩ : ∃ v, v = (u1115.setCell ⟨B20, 0, none⟩ (.int .i64 0)).setCell ⟨B20, 1, none⟩ (.int .i64 0) := ⟨_, rfl⟩
                        have tE : Turn B20 u1115 uE := by rw [huE]; exact (turn_setCell _ _ _ _).trans (turn_setCell _ _ _ _)
                        have SX_uE : Hid (Sub wr uE) := fun q v hq => tE.cell (SX_u1115.out _ _ hq) (by have h1 := World.block_lt_of_cell? _ _ hq; have h2 := LB.out; omega)
                        have BX_uE : Hid (Below B2 w uE) := BX_u1115.out.trans (tE.below (by have := BX_u1115.out.size; rw [HB2.out] at this; exact this) (by have h1 := LB.out; have h2 := INV.out.2.1.size; rw [HB2.out] at h2; omega))
                        go_simp
                        rw [← huE]
                        clear huE m0 m1 q0 q1 tE
                        try go_wp2_with fail
                        refine hK.out _ _ ?_ (fun hHeld_16 => ?_)
                        · exact SS.out _ SX_uE.out
                        clear hK K
                        try simp only [Act.put, List.setIfInBounds_toArray, List.set_cons_zero, List.set_cons_succ]
                        refine wpAnyH_take (i := 17) (oi := { dst := some 21, op := Op.assign (Operand.tmp 165), type := 4, pos := "outright.go:135", after := #[{ on := 14, ground := Ground.data }, { on := 16, ground := Ground.chain }, { on := 0, ground := Ground.phase }, { on := 1, ground := Ground.phase }, { on := 2, ground := Ground.phase }, { on := 3, ground := Ground.phase }, { on := 4, ground := Ground.phase }, { on := 5, ground := Ground.phase }, { on := 6, ground := Ground.phase }, { on := 7, ground := Ground.phase }, { on := 8, ground := Ground.phase }, { on := 9, ground := Ground.phase }, { on := 10, ground := Ground.phase }, { on := 11, ground := Ground.phase }, { on := 12, ground := Ground.phase }, { on := 13, ground := Ground.phase }, { on := 14, ground := Ground.phase }, { on := 15, ground := Ground.phase }, { on := 16, ground := Ground.phase }], guard := none }) (v := ?_) rfl (by kernel_rfl) (by kernel_rfl) (by kernel_rfl) (fun _ _ _ h => h) (Or.inl ⟨by rfl, ?_⟩) hHeld_16 ?_
                        rotate_left
                        · (intro w hSw; (try dsimp only at hSw); go_simp; try with_reducible rfl)
                        try simp only [Act.put, List.setIfInBounds_toArray, List.set_cons_zero, List.set_cons_succ]
                        refine wpAnyH_done (by kernel_rfl) ?_ _
                        have INV4 : Hid (Sub wF uE ∧ Below B2 w uE ∧ ∀ q ∈ l.take (j + 1), badH sl (isV m r) hv q = false) := ⟨INV.out.1.trans SX_uE.out, BX_uE.out, fun q hq => by
                          rw [take_pair HX.out, List.mem_append] at hq
                          rcases hq with hq | hq
                          · exact INV.out.2.2 q hq
                          · simp at hq; rw [hq]; exact HBB.out⟩
                        clear INV SS BX HBB
                        go_wp2
                        go_roundw
                        case rel => exact ⟨j + 1, by omega, by go_num, INV4.out⟩
                        case measure => simp [intOf]; omega
                      · obtain ⟨u15, hnw⟩ : ∃ v, v = (wr.alloc (.cells #[.int .i64 0, .int .i64 0] 33)).drew := ⟨_, rfl⟩
                        have bnw : Below wr.heap.size wr u15 := by rw [hnw]; exact (have hh := below_alloc wr (.cells #[.int .i64 0, .int .i64 0] 33); ⟨hh.os, hh.tape, hh.output, hh.size, hh.block⟩)
                        have SX_u15 : Hid (Sub wr u15) := sub_below bnw
                        have BX_u15 : Hid (Below B2 w u15) := BX_0.out.trans ((show Below wr.heap.size wr.drew u15 from ⟨bnw.os, bnw.tape, bnw.output, bnw.size, bnw.block⟩).mono (by have := BX_0.out.size; rw [HB2.out] at this; exact this))
                        have HX_u150 : Hid (u15.heap[wr.heap.size]? = some (.cells #[.int .i64 0, .int .i64 0] 33 (0, 0))) := by rw [hnw]; exact World.alloc_heap_new wr (.cells #[.int .i64 0, .int .i64 0] 33)
                        have LX_u15 : Hid (wr.heap.size ≤ u15.heap.size) := Nat.le_trans LX_0.out bnw.size
                        have LB20 : Hid (wr.heap.size ≤ wr.heap.size) := LX_0.out
                        go_simp
                        try rw [← hnw]
                        clear bnw hnw
                        obtain ⟨B20, hB20⟩ : ∃ B, wr.heap.size = B := ⟨_, rfl⟩
                        rw [hB20] at HX_u150 ⊢
                        have HX_u15 : Hid (u15.heap[B20]? = some (.cells #[.int .i64 0, .int .i64 0] 33 (0, 0))) := HX_u150.out
                        have LB : Hid (wr.heap.size ≤ B20) := by show wr.heap.size ≤ B20; rw [← hB20]; exact LB20.out
                        clear hB20 HX_u150 LB20
                        try go_wp2_with fail
                        refine hK.out _ _ ?_ (fun hHeld_15 => ?_)
                        · exact SS.out _ SX_u15.out
                        clear hK K
                        try simp only [Act.put, List.setIfInBounds_toArray, List.set_cons_zero, List.set_cons_succ]
                        refine wpAnyH_ready (rs := [11]) (by kernel_rfl) (by simp) ?_
                        refine AllReadyH.cons (o := { dst := some 163, op := Op.call { callee := Callee.value (Operand.func 11), args := #[Operand.tmp 157, Operand.tmp 158, Operand.tmp 160, Operand.tmp 162], argTypes := #[22, 27, 36, 22] }, type := 37, pos := "outright.go:135", after := #[{ on := 5, ground := Ground.data }, { on := 6, ground := Ground.data }, { on := 8, ground := Ground.data }, { on := 10, ground := Ground.data }], guard := none }) rfl (fun K hK => ?_) AllReadyH.nil
                        have CN : Hid _ := BX.out u15 SX_u15.out
                        go_simp
                        go_at_call 11
                        refine Calls.mono CN.out ?_
                        rintro e u1511 ⟨rfl, hb⟩
                        have SX_u1511 : Hid (Sub wr u1511) := SX_u15.out.trans (sub_below hb)
                        have BX_u1511 : Hid (Below B2 w u1511) := BX_u15.out.trans (hb.mono (by have := BX_u15.out.size; rw [HB2.out] at this; exact this))
                        have LX_u1511 : Hid (wr.heap.size ≤ u1511.heap.size) := Nat.le_trans LX_u15.out hb.size
                        have HX_u1511 : Hid (u1511.heap[B20]? = some (.cells #[.int .i64 0, .int .i64 0] 33 (0, 0))) := (hb.block _ (Array.getElem?_eq_some_iff.1 HX_u15.out).1).trans HX_u15.out
                        clear CN hb
                        try go_wp2_with fail
                        refine hK.out _ _ ?_ (fun hHeld_11 => ?_)
                        · exact SS.out _ SX_u1511.out
                        clear hK K
                        try simp only [Act.put, List.setIfInBounds_toArray, List.set_cons_zero, List.set_cons_succ]
                        refine wpAnyH_take (i := 12) (oi := { dst := some 151, op := Op.move (Operand.tmp 163), type := 37, pos := "outright.go:135", after := #[{ on := 11, ground := Ground.data }], guard := none }) (v := ?_) rfl (by kernel_rfl) (by kernel_rfl) (by kernel_rfl) (fun _ _ _ h => h) (Or.inl ⟨by rfl, ?_⟩) hHeld_11 ?_
                        rotate_left
                        · (intro w hSw; (try dsimp only at hSw); go_simp; try with_reducible rfl)
                        try simp only [Act.put, List.setIfInBounds_toArray, List.set_cons_zero, List.set_cons_succ]
                        refine wpAnyH_take (i := 13) (oi := { dst := some 164, op := Op.extract (Operand.tmp 151) 0, type := 33, pos := "outright.go:135", after := #[{ on := 12, ground := Ground.data }], guard := none }) (v := ?_) rfl (by kernel_rfl) (by kernel_rfl) (by kernel_rfl) (fun _ _ _ h => h) (Or.inl ⟨by rfl, ?_⟩) hHeld_11 ?_
                        rotate_left
                        · (intro w hSw; (try dsimp only at hSw); go_simp; try with_reducible rfl)
                        try simp only [Act.put, List.setIfInBounds_toArray, List.set_cons_zero, List.set_cons_succ]
                        refine wpAnyH_take (i := 14) (oi := { dst := some 165, op := Op.extract (Operand.tmp 151) 1, type := 4, pos := "outright.go:135", after := #[{ on := 12, ground := Ground.data }, { on := 16, ground := Ground.gcOnly Departure.lateStores }], guard := none }) (v := ?_) rfl (by kernel_rfl) (by kernel_rfl) (by kernel_rfl) (fun _ _ _ h => h) (Or.inl ⟨by rfl, ?_⟩) hHeld_11 ?_
                        rotate_left
                        · (intro w hSw; (try dsimp only at hSw); go_simp; try with_reducible rfl)
                        try simp only [Act.put, List.setIfInBounds_toArray, List.set_cons_zero, List.set_cons_succ]
                        refine wpAnyH_ready (rs := [16]) (by kernel_rfl) (by simp) ?_
                        refine AllReadyH.cons (o := { dst := none, op := Op.store 33 (Operand.tmp 20) (Operand.tmp 164), type := 0, pos := "outright.go:135", after := #[{ on := 15, ground := Ground.data }, { on := 13, ground := Ground.data }, { on := 11, ground := Ground.chain }, { on := 0, ground := Ground.phase }, { on := 1, ground := Ground.phase }, { on := 2, ground := Ground.phase }, { on := 3, ground := Ground.phase }, { on := 4, ground := Ground.phase }, { on := 5, ground := Ground.phase }, { on := 6, ground := Ground.phase }, { on := 7, ground := Ground.phase }, { on := 8, ground := Ground.phase }, { on := 9, ground := Ground.phase }, { on := 10, ground := Ground.phase }, { on := 11, ground := Ground.phase }, { on := 12, ground := Ground.phase }, { on := 13, ground := Ground.phase }, { on := 14, ground := Ground.textOnly Departure.lateStores }, { on := 15, ground := Ground.phase }], guard := none }) rfl (fun K hK => ?_) AllReadyH.nil
                        have m0 : u1511.cell? ⟨B20, 0, none⟩ = some (.int .i64 0) := by simp [World.cell?, HX_u1511.out]
                        have m1 : u1511.cell? ⟨B20, 1, none⟩ = some (.int .i64 0) := by simp [World.cell?, HX_u1511.out]
                        have q0 : u1511.frozen? ⟨B20, 0, none⟩ = false := by simp [World.frozen?, HX_u1511.out]
                        have q1 : u1511.frozen? ⟨B20, 1, none⟩ = false := by simp [World.frozen?, HX_u1511.out]
                        obtain ⟨uE, huE⟩ : ∃ v, v = (u1511.setCell ⟨B20, 0, none⟩ (.int .i64 0)).setCell ⟨B20, 1, none⟩ (.int .i64 0) := ⟨_, rfl⟩
                        have tE : Turn B20 u1511 uE := by rw [huE]; exact (turn_setCell _ _ _ _).trans (turn_setCell _ _ _ _)
                        have SX_uE : Hid (Sub wr uE) := fun q v hq => tE.cell (SX_u1511.out _ _ hq) (by have h1 := World.block_lt_of_cell? _ _ hq; have h2 := LB.out; omega)
                        have BX_uE : Hid (Below B2 w uE) := BX_u1511.out.trans (tE.below (by have := BX_u1511.out.size; rw [HB2.out] at this; exact this) (by have h1 := LB.out; have h2 := INV.out.2.1.size; rw [HB2.out] at h2; omega))
                        go_simp
                        rw [← huE]
                        clear huE m0 m1 q0 q1 tE
                        try go_wp2_with fail
                        refine hK.out _ _ ?_ (fun hHeld_16 => ?_)
                        · exact SS.out _ SX_uE.out
                        clear hK K
                        try simp only [Act.put, List.setIfInBounds_toArray, List.set_cons_zero, List.set_cons_succ]
                        refine wpAnyH_take (i := 17) (oi := { dst := some 21, op := Op.assign (Operand.tmp 165), type := 4, pos := "outright.go:135", after := #[{ on := 14, ground := Ground.data }, { on := 16, ground := Ground.chain }, { on := 0, ground := Ground.phase }, { on := 1, ground := Ground.phase }, { on := 2, ground := Ground.phase }, { on := 3, ground := Ground.phase }, { on := 4, ground := Ground.phase }, { on := 5, ground := Ground.phase }, { on := 6, ground := Ground.phase }, { on := 7, ground := Ground.phase }, { on := 8, ground := Ground.phase }, { on := 9, ground := Ground.phase }, { on := 10, ground := Ground.phase }, { on := 11, ground := Ground.phase }, { on := 12, ground := Ground.phase }, { on := 13, ground := Ground.phase }, { on := 14, ground := Ground.phase }, { on := 15, ground := Ground.phase }, { on := 16, ground := Ground.phase }], guard := none }) (v := ?_) rfl (by kernel_rfl) (by kernel_rfl) (by kernel_rfl) (fun _ _ _ h => h) (Or.inl ⟨by rfl, ?_⟩) hHeld_16 ?_
                        rotate_left
                        · (intro w hSw; (try dsimp only at hSw); go_simp; try with_reducible rfl)
                        try simp only [Act.put, List.setIfInBounds_toArray, List.set_cons_zero, List.set_cons_succ]
                        refine wpAnyH_done (by kernel_rfl) ?_ _
                        have INV4 : Hid (Sub wF uE ∧ Below B2 w uE ∧ ∀ q ∈ l.take (j + 1), badH sl (isV m r) hv q = false) := ⟨INV.out.1.trans SX_uE.out, BX_uE.out, fun q hq => by
                          rw [take_pair HX.out, List.mem_append] at hq
                          rcases hq with hq | hq
                          · exact INV.out.2.2 q hq
                          · simp at hq; rw [hq]; exact HBB.out⟩
                        clear INV SS BX HBB
                        go_wp2
                        go_roundw
                        case rel => exact ⟨j + 1, by omega, by go_num, INV4.out⟩
                        case measure => simp [intOf]; omega
                    · have HBB : Hid (badH sl (isV m r) hv (x, y) = true) := hbb
                      have BX : Hid (∀ W, Sub wr W → Calls Tryz.prog 11 #[.slice (some ⟨b1, o1 + j * 2, none⟩) 1 (cL - j), .agg #[.slice aS ks cs], .func (.func 10) #[.agg #[.slice (some ⟨b1, o1, none⟩) nL cL, .slice a0 n0 c0, .slice aH nH cH, .int .i64 m, .int .i64 r]] #[], .slice aH nH cH] W fun e w' => e = .returned (.tuple #[.agg #[.int .i64 x, .int .i64 y], .bool true]) ∧ Below W.heap.size W w') := fun W hW => (BXG.out W hW).mono fun e w' h => by
                        obtain ⟨h1, h2⟩ := h
                        rw [find_one, hbb] at h1
                        exact ⟨h1, h2⟩
                      clear hx hbb BXG c1 d1
                      go_wp2_with fail
                      clear k0 k1 k2 k3 k4 k5
                      refine wp_region_held_drew (S := fun w' => w'.cell? ⟨B2, 0, none⟩ = some (.slice (some ⟨b1, o1, none⟩) nL cL) ∧ w'.cell? ⟨B2, 1, none⟩ = some (.slice a0 n0 c0) ∧ w'.cell? ⟨B2, 2, none⟩ = some (.slice aH nH cH) ∧ w'.cell? ⟨B2, 3, none⟩ = some (.int .i64 m) ∧ w'.cell? ⟨B2, 4, none⟩ = some (.int .i64 r) ∧ w'.cell? ⟨B5, 0, none⟩ = some (.slice aS ks cs)) (by kernel_rfl) ?_ (fun hHeld => ?_)
                      · exact SS.out _ (fun _ _ h => h)
                      refine wpAnyH_take (i := 0) (oi := { dst := some 152, op := Op.fieldAddr 25 (Operand.tmp 2) 0, type := 0, pos := "outright.go:135", after := #[], guard := none }) (v := ?_) rfl (by kernel_rfl) (by kernel_rfl) (by kernel_rfl) (fun _ _ _ h => h) (Or.inl ⟨by rfl, ?_⟩) hHeld ?_
                      rotate_left
                      · (intro w hSw; (try dsimp only at hSw); go_simp; try with_reducible rfl)
                      try simp only [Act.put, List.setIfInBounds_toArray, List.set_cons_zero, List.set_cons_succ]
                      refine wpAnyH_take (i := 1) (oi := { dst := some 153, op := Op.load 22 (Operand.tmp 152), type := 22, pos := "outright.go:135", after := #[{ on := 0, ground := Ground.data }], guard := none }) (v := ?_) rfl (by kernel_rfl) (by kernel_rfl) (by kernel_rfl) (fun _ _ _ h => h) (Or.inl ⟨by rfl, ?_⟩) hHeld ?_
                      rotate_left
                      · (intro w hSw; (try dsimp only at hSw); go_simp; try with_reducible rfl)
                      try simp only [Act.put, List.setIfInBounds_toArray, List.set_cons_zero, List.set_cons_succ]
                      refine wpAnyH_take (i := 2) (oi := { dst := some 154, op := Op.move (Operand.tmp 19), type := 3, pos := "outright.go:135", after := #[], guard := none }) (v := ?_) rfl (by kernel_rfl) (by kernel_rfl) (by kernel_rfl) (fun _ _ _ h => h) (Or.inl ⟨by rfl, ?_⟩) hHeld ?_
                      rotate_left
                      · (intro w hSw; (try dsimp only at hSw); go_simp; try with_reducible rfl)
                      try simp only [Act.put, List.setIfInBounds_toArray, List.set_cons_zero, List.set_cons_succ]
                      refine wpAnyH_take (i := 3) (oi := { dst := some 155, op := Op.move (Operand.tmp 19), type := 3, pos := "outright.go:135", after := #[], guard := none }) (v := ?_) rfl (by kernel_rfl) (by kernel_rfl) (by kernel_rfl) (fun _ _ _ h => h) (Or.inl ⟨by rfl, ?_⟩) hHeld ?_
                      rotate_left
                      · (intro w hSw; (try dsimp only at hSw); go_simp; try with_reducible rfl)
                      try simp only [Act.put, List.setIfInBounds_toArray, List.set_cons_zero, List.set_cons_succ]
                      refine wpAnyH_take (i := 4) (oi := { dst := some 156, op := Op.binOp BinOp.add 3 (Operand.tmp 155) (Operand.const (Value.int IntKind.i64 1)) 3, type := 3, pos := "outright.go:135", after := #[{ on := 3, ground := Ground.data }], guard := none }) (v := ?_) rfl (by kernel_rfl) (by kernel_rfl) (by kernel_rfl) (fun _ _ _ h => h) (Or.inl ⟨by rfl, ?_⟩) hHeld ?_
                      rotate_left
                      · (intro w hSw; (try dsimp only at hSw); go_simp; try with_reducible rfl)
                      try simp only [Act.put, List.setIfInBounds_toArray, List.set_cons_zero, List.set_cons_succ]
                      refine wpAnyH_take (i := 5) (oi := { dst := some 157, op := Op.slice 22 (Operand.tmp 153) (some (Operand.tmp 154)) (some (Operand.tmp 156)) none, type := 22, pos := "outright.go:135", after := #[{ on := 1, ground := Ground.data }, { on := 2, ground := Ground.data }, { on := 4, ground := Ground.data }], guard := none }) (v := ?_) rfl (by kernel_rfl) (by kernel_rfl) (by kernel_rfl) (fun _ _ _ h => h) (Or.inl ⟨by rfl, ?_⟩) hHeld ?_
                      rotate_left
                      · (intro w hSw; (try dsimp only at hSw); go_simp; try with_reducible rfl)
                      try simp only [Act.put, List.setIfInBounds_toArray, List.set_cons_zero, List.set_cons_succ]
                      refine wpAnyH_take (i := 6) (oi := { dst := some 158, op := Op.load 27 (Operand.tmp 5), type := 27, pos := "outright.go:135", after := #[], guard := none }) (v := ?_) rfl (by kernel_rfl) (by kernel_rfl) (by kernel_rfl) (fun _ _ _ h => h) (Or.inl ⟨by rfl, ?_⟩) hHeld ?_
                      rotate_left
                      · (intro w hSw; (try dsimp only at hSw); go_simp; try with_reducible rfl)
                      try simp only [Act.put, List.setIfInBounds_toArray, List.set_cons_zero, List.set_cons_succ]
                      refine wpAnyH_take (i := 7) (oi := { dst := some 159, op := Op.load 25 (Operand.tmp 2), type := 25, pos := "outright.go:135", after := #[], guard := none }) (v := ?_) rfl (by kernel_rfl) (by kernel_rfl) (by kernel_rfl) (fun _ _ _ h => h) (Or.inl ⟨by rfl, ?_⟩) hHeld ?_
                      rotate_left
                      · (intro w hSw; (try dsimp only at hSw); go_simp; try with_reducible rfl)
                      try simp only [Act.put, List.setIfInBounds_toArray, List.set_cons_zero, List.set_cons_succ]
                      refine wpAnyH_take (i := 8) (oi := { dst := some 160, op := Op.makeFunc (Fn.func 10) #[Operand.tmp 159] #[], type := 36, pos := "outright.go:135", after := #[{ on := 7, ground := Ground.data }], guard := none }) (v := ?_) rfl (by kernel_rfl) (by kernel_rfl) (by kernel_rfl) (fun _ _ _ h => h) (Or.inl ⟨by rfl, ?_⟩) hHeld ?_
                      rotate_left
                      · (intro w hSw; (try dsimp only at hSw); go_simp; try with_reducible rfl)
                      try simp only [Act.put, List.setIfInBounds_toArray, List.set_cons_zero, List.set_cons_succ]
                      refine wpAnyH_take (i := 9) (oi := { dst := some 161, op := Op.fieldAddr 25 (Operand.tmp 2) 2, type := 0, pos := "outright.go:135", after := #[], guard := none }) (v := ?_) rfl (by kernel_rfl) (by kernel_rfl) (by kernel_rfl) (fun _ _ _ h => h) (Or.inl ⟨by rfl, ?_⟩) hHeld ?_
                      rotate_left
                      · (intro w hSw; (try dsimp only at hSw); go_simp; try with_reducible rfl)
                      try simp only [Act.put, List.setIfInBounds_toArray, List.set_cons_zero, List.set_cons_succ]
                      refine wpAnyH_take (i := 10) (oi := { dst := some 162, op := Op.load 22 (Operand.tmp 161), type := 22, pos := "outright.go:135", after := #[{ on := 9, ground := Ground.data }], guard := none }) (v := ?_) rfl (by kernel_rfl) (by kernel_rfl) (by kernel_rfl) (fun _ _ _ h => h) (Or.inl ⟨by rfl, ?_⟩) hHeld ?_
                      rotate_left
                      · (intro w hSw; (try dsimp only at hSw); go_simp; try with_reducible rfl)
                      try simp only [Act.put, List.setIfInBounds_toArray, List.set_cons_zero, List.set_cons_succ]
                      refine wpAnyH_ready (rs := [11, 15]) (by kernel_rfl) (by simp) ?_
                      refine AllReadyH.cons (o := { dst := some 163, op := Op.call { callee := Callee.value (Operand.func 11), args := #[Operand.tmp 157, Operand.tmp 158, Operand.tmp 160, Operand.tmp 162], argTypes := #[22, 27, 36, 22] }, type := 37, pos := "outright.go:135", after := #[{ on := 5, ground := Ground.data }, { on := 6, ground := Ground.data }, { on := 8, ground := Ground.data }, { on := 10, ground := Ground.data }], guard := none }) rfl (fun K hK => ?_) (AllReadyH.cons (o := { dst := some 20, op := Op.alloc 33, type := 0, pos := "outright.go:135", after := #[], guard := none }) rfl (fun K hK => ?_) AllReadyH.nil)
                      · have CN : Hid _ := BX.out wr.drew SX_0.out
                        go_simp
                        go_at_call 11
                        refine Calls.mono CN.out ?_
                        rintro e u11 ⟨rfl, hb⟩
                        have SX_u11 : Hid (Sub wr u11) := SX_0.out.trans (sub_below hb)
                        have BX_u11 : Hid (Below B2 w u11) := BX_0.out.trans (hb.mono (by have := BX_0.out.size; rw [HB2.out] at this; exact this))
                        have LX_u11 : Hid (wr.heap.size ≤ u11.heap.size) := Nat.le_trans LX_0.out hb.size
                        clear CN hb
                        try go_wp2_with fail
                        refine hK.out _ _ ?_ (fun hHeld_11 => ?_)
                        · exact SS.out _ SX_u11.out
                        clear hK K
                        try simp only [Act.put, List.setIfInBounds_toArray, List.set_cons_zero, List.set_cons_succ]
                        refine wpAnyH_take (i := 12) (oi := { dst := some 151, op := Op.move (Operand.tmp 163), type := 37, pos := "outright.go:135", after := #[{ on := 11, ground := Ground.data }], guard := none }) (v := ?_) rfl (by kernel_rfl) (by kernel_rfl) (by kernel_rfl) (fun _ _ _ h => h) (Or.inl ⟨by rfl, ?_⟩) hHeld_11 ?_
                        rotate_left
                        · (intro w hSw; (try dsimp only at hSw); go_simp; try with_reducible rfl)
                        try simp only [Act.put, List.setIfInBounds_toArray, List.set_cons_zero, List.set_cons_succ]
                        refine wpAnyH_take (i := 13) (oi := { dst := some 164, op := Op.extract (Operand.tmp 151) 0, type := 33, pos := "outright.go:135", after := #[{ on := 12, ground := Ground.data }], guard := none }) (v := ?_) rfl (by kernel_rfl) (by kernel_rfl) (by kernel_rfl) (fun _ _ _ h => h) (Or.inl ⟨by rfl, ?_⟩) hHeld_11 ?_
                        rotate_left
                        · (intro w hSw; (try dsimp only at hSw); go_simp; try with_reducible rfl)
                        try simp only [Act.put, List.setIfInBounds_toArray, List.set_cons_zero, List.set_cons_succ]
                        refine wpAnyH_take (i := 14) (oi := { dst := some 165, op := Op.extract (Operand.tmp 151) 1, type := 4, pos := "outright.go:135", after := #[{ on := 12, ground := Ground.data }, { on := 16, ground := Ground.gcOnly Departure.lateStores }], guard := none }) (v := ?_) rfl (by kernel_rfl) (by kernel_rfl) (by kernel_rfl) (fun _ _ _ h => h) (Or.inl ⟨by rfl, ?_⟩) hHeld_11 ?_
                        rotate_left
                        · (intro w hSw; (try dsimp only at hSw); go_simp; try with_reducible rfl)
                        try simp only [Act.put, List.setIfInBounds_toArray, List.set_cons_zero, List.set_cons_succ]
                        refine wpAnyH_ready (rs := [15]) (by kernel_rfl) (by simp) ?_
                        refine AllReadyH.cons (o := { dst := some 20, op := Op.alloc 33, type := 0, pos := "outright.go:135", after := #[], guard := none }) rfl (fun K hK => ?_) AllReadyH.nil
                        obtain ⟨u1115, hnw⟩ : ∃ v, v = u11.alloc (.cells #[.int .i64 0, .int .i64 0] 33) := ⟨_, rfl⟩
                        have bnw : Below u11.heap.size u11 u1115 := by rw [hnw]; exact below_alloc _ _
                        have SX_u1115 : Hid (Sub wr u1115) := SX_u11.out.trans (sub_below bnw)
                        have BX_u1115 : Hid (Below B2 w u1115) := BX_u11.out.trans ((show Below u11.heap.size u11 u1115 from ⟨bnw.os, bnw.tape, bnw.output, bnw.size, bnw.block⟩).mono (by have := BX_u11.out.size; rw [HB2.out] at this; exact this))
                        have HX_u11150 : Hid (u1115.heap[u11.heap.size]? = some (.cells #[.int .i64 0, .int .i64 0] 33 (0, 0))) := by rw [hnw]; exact World.alloc_heap_new u11 (.cells #[.int .i64 0, .int .i64 0] 33)
                        have LX_u1115 : Hid (wr.heap.size ≤ u1115.heap.size) := Nat.le_trans LX_u11.out bnw.size
                        have LB20 : Hid (wr.heap.size ≤ u11.heap.size) := LX_u11.out
                        go_simp
                        try rw [← hnw]
                        clear bnw hnw
                        obtain ⟨B20, hB20⟩ : ∃ B, u11.heap.size = B := ⟨_, rfl⟩
                        rw [hB20] at HX_u11150 ⊢
                        have HX_u1115 : Hid (u1115.heap[B20]? = some (.cells #[.int .i64 0, .int .i64 0] 33 (0, 0))) := HX_u11150.out
                        have LB : Hid (wr.heap.size ≤ B20) := by show wr.heap.size ≤ B20; rw [← hB20]; exact LB20.out
                        clear hB20 HX_u11150 LB20
                        try go_wp2_with fail
                        refine hK.out _ _ ?_ (fun hHeld_15 => ?_)
                        · exact SS.out _ SX_u1115.out
                        clear hK K
                        try simp only [Act.put, List.setIfInBounds_toArray, List.set_cons_zero, List.set_cons_succ]
                        refine wpAnyH_ready (rs := [16]) (by kernel_rfl) (by simp) ?_
                        refine AllReadyH.cons (o := { dst := none, op := Op.store 33 (Operand.tmp 20) (Operand.tmp 164), type := 0, pos := "outright.go:135", after := #[{ on := 15, ground := Ground.data }, { on := 13, ground := Ground.data }, { on := 11, ground := Ground.chain }, { on := 0, ground := Ground.phase }, { on := 1, ground := Ground.phase }, { on := 2, ground := Ground.phase }, { on := 3, ground := Ground.phase }, { on := 4, ground := Ground.phase }, { on := 5, ground := Ground.phase }, { on := 6, ground := Ground.phase }, { on := 7, ground := Ground.phase }, { on := 8, ground := Ground.phase }, { on := 9, ground := Ground.phase }, { on := 10, ground := Ground.phase }, { on := 11, ground := Ground.phase }, { on := 12, ground := Ground.phase }, { on := 13, ground := Ground.phase }, { on := 14, ground := Ground.textOnly Departure.lateStores }, { on := 15, ground := Ground.phase }], guard := none }) rfl (fun K hK => ?_) AllReadyH.nil
                        have m0 : u1115.cell? ⟨B20, 0, none⟩ = some (.int .i64 0) := by simp [World.cell?, HX_u1115.out]
                        have m1 : u1115.cell? ⟨B20, 1, none⟩ = some (.int .i64 0) := by simp [World.cell?, HX_u1115.out]
                        have q0 : u1115.frozen? ⟨B20, 0, none⟩ = false := by simp [World.frozen?, HX_u1115.out]
                        have q1 : u1115.frozen? ⟨B20, 1, none⟩ = false := by simp [World.frozen?, HX_u1115.out]
                        obtain ⟨uE, huE⟩ : ∃ v, v = (u1115.setCell ⟨B20, 0, none⟩ (.int .i64 x)).setCell ⟨B20, 1, none⟩ (.int .i64 y) := ⟨_, rfl⟩
                        have tE : Turn B20 u1115 uE := by rw [huE]; exact (turn_setCell _ _ _ _).trans (turn_setCell _ _ _ _)
                        have SX_uE : Hid (Sub wr uE) := fun q v hq => tE.cell (SX_u1115.out _ _ hq) (by have h1 := World.block_lt_of_cell? _ _ hq; have h2 := LB.out; omega)
                        have BX_uE : Hid (Below B2 w uE) := BX_u1115.out.trans (tE.below (by have := BX_u1115.out.size; rw [HB2.out] at this; exact this) (by have h1 := LB.out; have h2 := INV.out.2.1.size; rw [HB2.out] at h2; omega))
                        go_simp
                        rw [← huE]
                        clear huE m0 m1 q0 q1 tE
                        try go_wp2_with fail
                        refine hK.out _ _ ?_ (fun hHeld_16 => ?_)
                        · exact SS.out _ SX_uE.out
                        clear hK K
                        try simp only [Act.put, List.setIfInBounds_toArray, List.set_cons_zero, List.set_cons_succ]
                        refine wpAnyH_take (i := 17) (oi := { dst := some 21, op := Op.assign (Operand.tmp 165), type := 4, pos := "outright.go:135", after := #[{ on := 14, ground := Ground.data }, { on := 16, ground := Ground.chain }, { on := 0, ground := Ground.phase }, { on := 1, ground := Ground.phase }, { on := 2, ground := Ground.phase }, { on := 3, ground := Ground.phase }, { on := 4, ground := Ground.phase }, { on := 5, ground := Ground.phase }, { on := 6, ground := Ground.phase }, { on := 7, ground := Ground.phase }, { on := 8, ground := Ground.phase }, { on := 9, ground := Ground.phase }, { on := 10, ground := Ground.phase }, { on := 11, ground := Ground.phase }, { on := 12, ground := Ground.phase }, { on := 13, ground := Ground.phase }, { on := 14, ground := Ground.phase }, { on := 15, ground := Ground.phase }, { on := 16, ground := Ground.phase }], guard := none }) (v := ?_) rfl (by kernel_rfl) (by kernel_rfl) (by kernel_rfl) (fun _ _ _ h => h) (Or.inl ⟨by rfl, ?_⟩) hHeld_16 ?_
                        rotate_left
                        · (intro w hSw; (try dsimp only at hSw); go_simp; try with_reducible rfl)
                        try simp only [Act.put, List.setIfInBounds_toArray, List.set_cons_zero, List.set_cons_succ]
                        refine wpAnyH_done (by kernel_rfl) ?_ _
                        have hfe : l.find? (badH sl (isV m r) hv) = some (x, y) := find_at HX.out HBB.out INV.out.2.2
                        have hpp : (px, py) = (x, y) := by have h := HPX.out; rw [hfe] at h; exact h.symm
                        obtain ⟨rfl, rfl⟩ := Prod.mk.inj hpp
                        have ZZ : Hid (∀ w', Sub uE w' → w'.cell? ⟨B10, 0, none⟩ = some (.int .i64 px) ∧ w'.cell? ⟨B10, 1, none⟩ = some (.int .i64 py) ∧ w'.cell? ⟨B2, 0, none⟩ = some (.slice (some ⟨b1, o1, none⟩) nL cL) ∧ w'.cell? ⟨b1, o1 + j * 2, none⟩ = some (.int .i64 px) ∧ w'.cell? ⟨b1, o1 + j * 2 + 1, none⟩ = some (.int .i64 py)) := fun w' h => by
                          have s := (INV.out.1.trans SX_uE.out).trans h
                          obtain ⟨bq, oq, eq, cq, dq'⟩ := PL.out.sub ((SWS.out.trans SF.out).trans s) j _ HX.out
                          cases eq
                          exact ⟨s _ _ X10.out.1, s _ _ X10.out.2, (KF.out w' s).1, cq, dq'⟩
                        clear hfe SS BX HBB
                        go_wp2_with fail
                        refine wp_region_held_drew (S := fun w' => w'.cell? ⟨B10, 0, none⟩ = some (.int .i64 px) ∧ w'.cell? ⟨B10, 1, none⟩ = some (.int .i64 py) ∧ w'.cell? ⟨B2, 0, none⟩ = some (.slice (some ⟨b1, o1, none⟩) nL cL) ∧ w'.cell? ⟨b1, o1 + j * 2, none⟩ = some (.int .i64 px) ∧ w'.cell? ⟨b1, o1 + j * 2 + 1, none⟩ = some (.int .i64 py)) (by kernel_rfl) ?_ (fun hHeld => ?_)
                        · exact ZZ.out _ (fun _ _ h => h)
                        refine wpAnyH_take (i := 0) (oi := { dst := some 167, op := Op.move (Operand.tmp 11), type := 4, pos := "outright.go:137", after := #[], guard := none }) (v := ?_) rfl (by kernel_rfl) (by kernel_rfl) (by kernel_rfl) (fun _ _ _ h => h) (Or.inl ⟨by rfl, ?_⟩) hHeld ?_
                        rotate_left
                        · (intro w hSw; (try dsimp only at hSw); go_simp; try with_reducible rfl)
                        try simp only [Act.put, List.setIfInBounds_toArray, List.set_cons_zero, List.set_cons_succ]
                        refine wpAnyH_take (i := 1) (oi := { dst := some 168, op := Op.unOp UnOp.not 4 (Operand.tmp 167), type := 4, pos := "outright.go:137", after := #[{ on := 0, ground := Ground.data }], guard := none }) (v := ?_) rfl (by kernel_rfl) (by kernel_rfl) (by kernel_rfl) (fun _ _ _ h => h) (Or.inl ⟨by rfl, ?_⟩) hHeld ?_
                        rotate_left
                        · (intro w hSw; (try dsimp only at hSw); go_simp; try with_reducible rfl)
                        try simp only [Act.put, List.setIfInBounds_toArray, List.set_cons_zero, List.set_cons_succ]
                        refine wpAnyH_take (i := 2) (oi := { dst := some 169, op := Op.move (Operand.tmp 168), type := 4, pos := "outright.go:137", after := #[{ on := 1, ground := Ground.data }], guard := none }) (v := ?_) rfl (by kernel_rfl) (by kernel_rfl) (by kernel_rfl) (fun _ _ _ h => h) (Or.inl ⟨by rfl, ?_⟩) hHeld ?_
                        rotate_left
                        · (intro w hSw; (try dsimp only at hSw); go_simp; try with_reducible rfl)
                        try simp only [Act.put, List.setIfInBounds_toArray, List.set_cons_zero, List.set_cons_succ]
                        refine wpAnyH_take (i := 3) (oi := { dst := some 170, op := Op.load 33 (Operand.tmp 10), type := 33, pos := "outright.go:137", after := #[{ on := 2, ground := Ground.guard }], guard := some (2, false) }) (v := ?_) rfl (by kernel_rfl) (by kernel_rfl) (by kernel_rfl) (fun _ _ _ h => h) (Or.inl ⟨by rfl, ?_⟩) hHeld ?_
                        rotate_left
                        · (intro w hSw; (try dsimp only at hSw); go_simp; try with_reducible rfl)
                        try simp only [Act.put, List.setIfInBounds_toArray, List.set_cons_zero, List.set_cons_succ]
                        refine wpAnyH_take (i := 4) (oi := { dst := some 171, op := Op.fieldAddr 25 (Operand.tmp 2) 0, type := 0, pos := "outright.go:137", after := #[{ on := 2, ground := Ground.guard }], guard := some (2, false) }) (v := ?_) rfl (by kernel_rfl) (by kernel_rfl) (by kernel_rfl) (fun _ _ _ h => h) (Or.inl ⟨by rfl, ?_⟩) hHeld ?_
                        rotate_left
                        · (intro w hSw; (try dsimp only at hSw); go_simp; try with_reducible rfl)
                        try simp only [Act.put, List.setIfInBounds_toArray, List.set_cons_zero, List.set_cons_succ]
                        refine wpAnyH_take (i := 5) (oi := { dst := some 172, op := Op.load 22 (Operand.tmp 171), type := 22, pos := "outright.go:137", after := #[{ on := 4, ground := Ground.data }, { on := 2, ground := Ground.guard }], guard := some (2, false) }) (v := ?_) rfl (by kernel_rfl) (by kernel_rfl) (by kernel_rfl) (fun _ _ _ h => h) (Or.inl ⟨by rfl, ?_⟩) hHeld ?_
                        rotate_left
                        · (intro w hSw; (try dsimp only at hSw); go_simp; try with_reducible rfl)
                        try simp only [Act.put, List.setIfInBounds_toArray, List.set_cons_zero, List.set_cons_succ]
                        refine wpAnyH_take (i := 6) (oi := { dst := some 173, op := Op.move (Operand.tmp 19), type := 3, pos := "outright.go:137", after := #[{ on := 2, ground := Ground.guard }], guard := some (2, false) }) (v := ?_) rfl (by kernel_rfl) (by kernel_rfl) (by kernel_rfl) (fun _ _ _ h => h) (Or.inl ⟨by rfl, ?_⟩) hHeld ?_
                        rotate_left
                        · (intro w hSw; (try dsimp only at hSw); go_simp; try with_reducible rfl)
                        try simp only [Act.put, List.setIfInBounds_toArray, List.set_cons_zero, List.set_cons_succ]
                        refine wpAnyH_take (i := 7) (oi := { dst := some 174, op := Op.indexAddr 22 (Operand.tmp 172) (Operand.tmp 173), type := 0, pos := "outright.go:137", after := #[{ on := 5, ground := Ground.data }, { on := 6, ground := Ground.data }, { on := 2, ground := Ground.guard }], guard := some (2, false) }) (v := ?_) rfl (by kernel_rfl) (by kernel_rfl) (by kernel_rfl) (fun _ _ _ h => h) (Or.inl ⟨by rfl, ?_⟩) hHeld ?_
                        rotate_left
                        · (intro w hSw; (try dsimp only at hSw); go_simp; try with_reducible rfl)
                        try simp only [Act.put, List.setIfInBounds_toArray, List.set_cons_zero, List.set_cons_succ]
                        refine wpAnyH_take (i := 8) (oi := { dst := some 175, op := Op.load 33 (Operand.tmp 174), type := 33, pos := "outright.go:137", after := #[{ on := 7, ground := Ground.data }, { on := 2, ground := Ground.guard }], guard := some (2, false) }) (v := ?_) rfl (by kernel_rfl) (by kernel_rfl) (by kernel_rfl) (fun _ _ _ h => h) (Or.inl ⟨by rfl, ?_⟩) hHeld ?_
                        rotate_left
                        · (intro w hSw; (try dsimp only at hSw); go_simp; try with_reducible rfl)
                        try simp only [Act.put, List.setIfInBounds_toArray, List.set_cons_zero, List.set_cons_succ]
                        refine wpAnyH_take (i := 9) (oi := { dst := some 176, op := Op.binOp BinOp.neq 33 (Operand.tmp 170) (Operand.tmp 175) 33, type := 4, pos := "outright.go:137", after := #[{ on := 3, ground := Ground.data }, { on := 8, ground := Ground.data }, { on := 2, ground := Ground.guard }], guard := some (2, false) }) (v := ?_) rfl (by kernel_rfl) (by kernel_rfl) (by kernel_rfl) (fun _ _ _ h => h) (Or.inl ⟨by rfl, ?_⟩) hHeld ?_
                        rotate_left
                        · (intro w hSw; (try dsimp only at hSw); go_simp; try with_reducible rfl)
                        try simp only [Act.put, List.setIfInBounds_toArray, List.set_cons_zero, List.set_cons_succ]
                        refine wpAnyH_take (i := 10) (oi := { dst := some 177, op := Op.pick (Operand.tmp 169) (Operand.const (Value.bool true)) (Operand.tmp 176), type := 4, pos := "outright.go:137", after := #[{ on := 2, ground := Ground.data }, { on := 9, ground := Ground.data }], guard := none }) (v := ?_) rfl (by kernel_rfl) (by kernel_rfl) (by kernel_rfl) (fun _ _ _ h => h) (Or.inl ⟨by rfl, ?_⟩) hHeld ?_
                        rotate_left
                        · (intro w hSw; (try dsimp only at hSw); go_simp; try with_reducible rfl)
                        try simp only [Act.put, List.setIfInBounds_toArray, List.set_cons_zero, List.set_cons_succ]
                        refine wpAnyH_done (by kernel_rfl) ?_ _
                        have INV5 : Hid (Sub wF uE.drew ∧ Below B2 w uE.drew) := ⟨INV.out.1.trans SX_uE.out, ⟨BX_uE.out.os, BX_uE.out.tape, BX_uE.out.output, BX_uE.out.size, BX_uE.out.block⟩⟩
                        obtain ⟨wN, hwN⟩ : ∃ wN, wN = uE.drew := ⟨_, rfl⟩
                        rw [← hwN] at INV5
                        clear INV ZZ hj hlt n1 f1 f2 f3 f4 f5 f6
                        have AO : Hid (l.find? (badH sl (isV m r) mm) = none) := ask_own WB.out DD.out.wl hN hT hfn
                        have C34 : Hid _ := BRE.out wN (some ⟨b1, o1, none⟩) nL cL l ax qm cx mm (SF.out.trans INV5.out.1) HL.out hnL (fun q hq => hq) (PL.out.sub ((SWS.out.trans SF.out).trans INV5.out.1)) QM.out (by omega) ASK.out.up.2.2 (PMF.out.sub INV5.out.1)
                        obtain ⟨k0, k1, k2, k3, k4, k5⟩ := KF.out wN INV5.out.1
                        rw [hwN] at k0 k1 k2 k3 k4 k5
                        go_wp2_with fail
                        rw [← hwN]
                        clear hwN
                        clear k0 k1 k2 k3 k4 k5
                        refine Calls.mono C34.out ?_
                        rintro e wK ⟨rfl, hbK⟩
                        rw [AO.out]
                        simp only [Option.getD_none, Option.isSome_none]
                        obtain ⟨wL, hwL⟩ : ∃ wL, wL = wK.alloc (.cells #[.int .i64 0, .int .i64 0] 33) := ⟨_, rfl⟩
                        have sNL : Below wN.heap.size wN wL := by rw [hwL]; exact hbK.alloc hbK.size _
                        have SLw : Hid (Sub wF wL) := INV5.out.1.trans (sub_below sNL)
                        have BL : Hid (Below B2 w wL) := INV5.out.2.trans (sNL.mono (by have := INV5.out.2.size; rw [HB2.out] at this; exact this))
                        unfold encP
                        clear C34 hbK sNL
                        rcases Nat.eq_zero_or_pos qm with hq0 | hq0
                        · subst hq0
                          go_wp2
                          rw [← hwL]
                          go_ret
                          exact ⟨rfl, BL.out⟩
                        · have g1 : (qm = 0) = False := eq_false (by omega)
                          have RE : Hid _ := rest_any wL d (qm : Int) DD.out.wd (WalkArith.wf_i64 (by omega)) (by omega)
                          go_wp2_with fail
                          rw [← hwL]
                          clear hwL
                          refine Calls.mono RE.out ?_
                          rintro e wz ⟨rfl, hwz⟩
                          subst wz
                          obtain ⟨kN, hkN⟩ : ∃ kN : Nat, d % (qm : Int) = (kN : Int) := ⟨(d % (qm : Int)).toNat, (Int.toNat_of_nonneg (Int.emod_nonneg _ (by omega))).symm⟩
                          have hkq : kN < qm := by have := Int.emod_lt_of_pos d (b := (qm : Int)) (by omega); omega
                          rw [hkN]
                          clear RE hkN
                          obtain ⟨q00, hq00⟩ : ∃ q, mm[0]? = some q := ⟨mm[0]'(by rw [QM.out]; exact hq0), List.getElem?_eq_getElem _⟩
                          obtain ⟨ba, oa, rfl, _, _⟩ := PMF.out 0 _ hq00
                          have PML : Hid (∀ W, Below wL.heap.size wL W → PairsAt W (some ⟨ba, oa, none⟩) mm) := fun W h => (PMF.out.sub SLw.out).under h
                          have HLE : Hid ((l.find? (badH sl (isV m r) (mm.take kN ++ mm.drop (kN + 1)))).isSome = true) := ask_less WB.out DD.out.wl hN hT hfn (by rw [QM.out]; exact hkq)
                          have WLS : Hid (∀ q ∈ mm.take kN ++ mm.drop (kN + 1), wfP q) := fun q hq => ASK.out.up.2.2 q (by
                            rcases List.mem_append.1 hq with hq | hq
                            · exact List.mem_of_mem_take hq
                            · exact List.mem_of_mem_drop hq)
                          have LT : Hid ((mm.take kN).length = kN) := by show _ = _; rw [List.length_take, QM.out]; omega
                          have LD : Hid ((mm.drop (kN + 1)).length = qm - (kN + 1)) := by show _ = _; rw [List.length_drop, QM.out]
                          obtain ⟨i0, hi0, hz0, hz1, hz3⟩ := info_parts info24
                          have h1 : kN ≤ cx := by omega
                          have f1 : IntKind.i64.wrap ((kN : Int) + 1) = ((kN + 1 : Nat) : Int) := by rw [IntWalk.i64_in _ (by omega)]; omega
                          have h2 : kN + 1 ≤ qm := by omega
                          clear hq00
                          by_cases hc : cx = kN + 1
                          · have PD : Hid (∀ W, Below wL.heap.size wL W → PairsAt W (some ⟨ba, oa, none⟩) (mm.drop (kN + 1))) := fun W h i q hi => by
                              have hlt := (List.getElem?_eq_some_iff.1 hi).1
                              rw [LD.out] at hlt
                              omega
                            have g3 : (cx = kN + 1) = True := eq_true hc
                            clear hc
                            go_wp2_with (at_builtin; first
                              | (refine wpList_append_more (w := wL) rfl _ _ _ rfl wL.heap.size 33 i0 _ 2 16 Tryz.underlying22 hi0 hz0 hz1 hz3 rfl (by omega) _ 0 [] (by rfl) (World.ownsRow_nil _ _ _ _) (some ⟨ba, oa, none⟩) kN cx (rowP (mm.take kN)) (by rfl) (by rw [rowP_len, LT.out]) (pairs_row (pairs_take (PML.out wL (Below.refl _ _)) kN)).news (rowP_one _) (by unfold maxLen; omega) (by omega) (Nat.le_refl _) ?_; intro a4 c4 w4 ho4 hb4; rw [Nat.zero_add] at ho4 ⊢; have HO4 : Hid (w4.ownsRow wL.heap.size 33 2 (.slice a4 kN c4) kN (rowP (mm.take kN))) := ho4; have HB4 : Hid (Below wL.heap.size wL w4) := hb4; clear ho4 hb4)
                              | (refine wpList_append_more (w := w4) rfl _ _ _ rfl wL.heap.size 33 i0 _ 2 16 Tryz.underlying22 hi0 hz0 hz1 hz3 rfl (by omega) _ kN (rowP (mm.take kN)) (by rfl) (by exact HO4.out) (some ⟨ba, oa, none⟩) (qm - (kN + 1)) (cx - (kN + 1)) (rowP (mm.drop (kN + 1))) (by rfl) (by rw [rowP_len, LD.out]) (pairs_row (PD.out w4 HB4.out)).news (rowP_one _) (by unfold maxLen; omega) (by omega) (by exact HB4.out.size) ?_; intro a5 c5 w5 ho5 hb5; have HO5 : Hid (w5.ownsRow wL.heap.size 33 2 (.slice a5 (kN + (qm - (kN + 1))) c5) (kN + (qm - (kN + 1))) (rowP (mm.take kN ++ mm.drop (kN + 1)))) := (by rw [rowP_append]; exact ho5); have HB5 : Hid (Below wL.heap.size wL w5) := HB4.out.trans hb5; obtain ⟨k0, k1, k2, k3, k4, k5⟩ := KF.out w5 (SLw.out.trans (sub_below (HB4.out.trans hb5))); clear ho5 hb5))
                            have CL : Hid _ := BRE.out w5 (some ⟨b1, o1, none⟩) nL cL l a5 (kN + (qm - (kN + 1))) c5 (mm.take kN ++ mm.drop (kN + 1)) (SF.out.trans (SLw.out.trans (sub_below HB5.out))) HL.out hnL (fun q hq => hq) (PL.out.sub ((SWS.out.trans SF.out).trans (SLw.out.trans (sub_below HB5.out)))) (by rw [List.length_append, LT.out, LD.out]) (by omega) WLS.out (own_pairs HO5.out)
                            refine Calls.mono CL.out ?_
                            rintro e w6 ⟨rfl, hb6⟩
                            rw [HLE.out]
                            obtain ⟨⟨ux, uy⟩, hu⟩ : ∃ q, (l.find? (badH sl (isV m r) (mm.take kN ++ mm.drop (kN + 1)))).getD (0, 0) = q := ⟨_, rfl⟩
                            rw [hu]
                            have B6 : Hid (Below B2 w w6) := BL.out.trans ((HB5.out.trans (hb6.mono HB5.out.size)).mono (by have := BL.out.size; rw [HB2.out] at this; exact this))
                            unfold encP
                            clear CL hb6 hu k0 k1 k2 k3 k4 k5
                            go_wp2
                            go_ret
                            exact ⟨rfl, B6.out⟩
                          · have PD : Hid (∀ W, Below wL.heap.size wL W → PairsAt W (some ⟨ba, oa + (kN + 1) * 2, none⟩) (mm.drop (kN + 1))) := fun W h => pairs_drop (PML.out W h) (kN + 1)
                            have g3 : (cx = kN + 1) = False := eq_false hc
                            clear hc
                            go_wp2_with (at_builtin; first
                              | (refine wpList_append_more (w := wL) rfl _ _ _ rfl wL.heap.size 33 i0 _ 2 16 Tryz.underlying22 hi0 hz0 hz1 hz3 rfl (by omega) _ 0 [] (by rfl) (World.ownsRow_nil _ _ _ _) (some ⟨ba, oa, none⟩) kN cx (rowP (mm.take kN)) (by rfl) (by rw [rowP_len, LT.out]) (pairs_row (pairs_take (PML.out wL (Below.refl _ _)) kN)).news (rowP_one _) (by unfold maxLen; omega) (by omega) (Nat.le_refl _) ?_; intro a4 c4 w4 ho4 hb4; rw [Nat.zero_add] at ho4 ⊢; have HO4 : Hid (w4.ownsRow wL.heap.size 33 2 (.slice a4 kN c4) kN (rowP (mm.take kN))) := ho4; have HB4 : Hid (Below wL.heap.size wL w4) := hb4; clear ho4 hb4)
                              | (refine wpList_append_more (w := w4) rfl _ _ _ rfl wL.heap.size 33 i0 _ 2 16 Tryz.underlying22 hi0 hz0 hz1 hz3 rfl (by omega) _ kN (rowP (mm.take kN)) (by rfl) (by exact HO4.out) (some ⟨ba, oa + (kN + 1) * 2, none⟩) (qm - (kN + 1)) (cx - (kN + 1)) (rowP (mm.drop (kN + 1))) (by rfl) (by rw [rowP_len, LD.out]) (pairs_row (PD.out w4 HB4.out)).news (rowP_one _) (by unfold maxLen; omega) (by omega) (by exact HB4.out.size) ?_; intro a5 c5 w5 ho5 hb5; have HO5 : Hid (w5.ownsRow wL.heap.size 33 2 (.slice a5 (kN + (qm - (kN + 1))) c5) (kN + (qm - (kN + 1))) (rowP (mm.take kN ++ mm.drop (kN + 1)))) := (by rw [rowP_append]; exact ho5); have HB5 : Hid (Below wL.heap.size wL w5) := HB4.out.trans hb5; obtain ⟨k0, k1, k2, k3, k4, k5⟩ := KF.out w5 (SLw.out.trans (sub_below (HB4.out.trans hb5))); clear ho5 hb5))
                            have CL : Hid _ := BRE.out w5 (some ⟨b1, o1, none⟩) nL cL l a5 (kN + (qm - (kN + 1))) c5 (mm.take kN ++ mm.drop (kN + 1)) (SF.out.trans (SLw.out.trans (sub_below HB5.out))) HL.out hnL (fun q hq => hq) (PL.out.sub ((SWS.out.trans SF.out).trans (SLw.out.trans (sub_below HB5.out)))) (by rw [List.length_append, LT.out, LD.out]) (by omega) WLS.out (own_pairs HO5.out)
                            refine Calls.mono CL.out ?_
                            rintro e w6 ⟨rfl, hb6⟩
                            rw [HLE.out]
                            obtain ⟨⟨ux, uy⟩, hu⟩ : ∃ q, (l.find? (badH sl (isV m r) (mm.take kN ++ mm.drop (kN + 1)))).getD (0, 0) = q := ⟨_, rfl⟩
                            rw [hu]
                            have B6 : Hid (Below B2 w w6) := BL.out.trans ((HB5.out.trans (hb6.mono HB5.out.size)).mono (by have := BL.out.size; rw [HB2.out] at this; exact this))
                            unfold encP
                            clear CL hb6 hu k0 k1 k2 k3 k4 k5
                            go_wp2
                            go_ret
                            exact ⟨rfl, B6.out⟩
                      · obtain ⟨u15, hnw⟩ : ∃ v, v = (wr.alloc (.cells #[.int .i64 0, .int .i64 0] 33)).drew := ⟨_, rfl⟩
                        have bnw : Below wr.heap.size wr u15 := by rw [hnw]; exact (have hh := below_alloc wr (.cells #[.int .i64 0, .int .i64 0] 33); ⟨hh.os, hh.tape, hh.output, hh.size, hh.block⟩)
                        have SX_u15 : Hid (Sub wr u15) := sub_below bnw
                        have BX_u15 : Hid (Below B2 w u15) := BX_0.out.trans ((show Below wr.heap.size wr.drew u15 from ⟨bnw.os, bnw.tape, bnw.output, bnw.size, bnw.block⟩).mono (by have := BX_0.out.size; rw [HB2.out] at this; exact this))
                        have HX_u150 : Hid (u15.heap[wr.heap.size]? = some (.cells #[.int .i64 0, .int .i64 0] 33 (0, 0))) := by rw [hnw]; exact World.alloc_heap_new wr (.cells #[.int .i64 0, .int .i64 0] 33)
                        have LX_u15 : Hid (wr.heap.size ≤ u15.heap.size) := Nat.le_trans LX_0.out bnw.size
                        have LB20 : Hid (wr.heap.size ≤ wr.heap.size) := LX_0.out
                        go_simp
                        try rw [← hnw]
                        clear bnw hnw
                        obtain ⟨B20, hB20⟩ : ∃ B, wr.heap.size = B := ⟨_, rfl⟩
                        rw [hB20] at HX_u150 ⊢
                        have HX_u15 : Hid (u15.heap[B20]? = some (.cells #[.int .i64 0, .int .i64 0] 33 (0, 0))) := HX_u150.out
                        have LB : Hid (wr.heap.size ≤ B20) := by show wr.heap.size ≤ B20; rw [← hB20]; exact LB20.out
                        clear hB20 HX_u150 LB20
                        try go_wp2_with fail
                        refine hK.out _ _ ?_ (fun hHeld_15 => ?_)
                        · exact SS.out _ SX_u15.out
                        clear hK K
                        try simp only [Act.put, List.setIfInBounds_toArray, List.set_cons_zero, List.set_cons_succ]
                        refine wpAnyH_ready (rs := [11]) (by kernel_rfl) (by simp) ?_
                        refine AllReadyH.cons (o := { dst := some 163, op := Op.call { callee := Callee.value (Operand.func 11), args := #[Operand.tmp 157, Operand.tmp 158, Operand.tmp 160, Operand.tmp 162], argTypes := #[22, 27, 36, 22] }, type := 37, pos := "outright.go:135", after := #[{ on := 5, ground := Ground.data }, { on := 6, ground := Ground.data }, { on := 8, ground := Ground.data }, { on := 10, ground := Ground.data }], guard := none }) rfl (fun K hK => ?_) AllReadyH.nil
                        have CN : Hid _ := BX.out u15 SX_u15.out
                        go_simp
                        go_at_call 11
                        refine Calls.mono CN.out ?_
                        rintro e u1511 ⟨rfl, hb⟩
                        have SX_u1511 : Hid (Sub wr u1511) := SX_u15.out.trans (sub_below hb)
                        have BX_u1511 : Hid (Below B2 w u1511) := BX_u15.out.trans (hb.mono (by have := BX_u15.out.size; rw [HB2.out] at this; exact this))
                        have LX_u1511 : Hid (wr.heap.size ≤ u1511.heap.size) := Nat.le_trans LX_u15.out hb.size
                        have HX_u1511 : Hid (u1511.heap[B20]? = some (.cells #[.int .i64 0, .int .i64 0] 33 (0, 0))) := (hb.block _ (Array.getElem?_eq_some_iff.1 HX_u15.out).1).trans HX_u15.out
                        clear CN hb
                        try go_wp2_with fail
                        refine hK.out _ _ ?_ (fun hHeld_11 => ?_)
                        · exact SS.out _ SX_u1511.out
                        clear hK K
                        try simp only [Act.put, List.setIfInBounds_toArray, List.set_cons_zero, List.set_cons_succ]
                        refine wpAnyH_take (i := 12) (oi := { dst := some 151, op := Op.move (Operand.tmp 163), type := 37, pos := "outright.go:135", after := #[{ on := 11, ground := Ground.data }], guard := none }) (v := ?_) rfl (by kernel_rfl) (by kernel_rfl) (by kernel_rfl) (fun _ _ _ h => h) (Or.inl ⟨by rfl, ?_⟩) hHeld_11 ?_
                        rotate_left
                        · (intro w hSw; (try dsimp only at hSw); go_simp; try with_reducible rfl)
                        try simp only [Act.put, List.setIfInBounds_toArray, List.set_cons_zero, List.set_cons_succ]
                        refine wpAnyH_take (i := 13) (oi := { dst := some 164, op := Op.extract (Operand.tmp 151) 0, type := 33, pos := "outright.go:135", after := #[{ on := 12, ground := Ground.data }], guard := none }) (v := ?_) rfl (by kernel_rfl) (by kernel_rfl) (by kernel_rfl) (fun _ _ _ h => h) (Or.inl ⟨by rfl, ?_⟩) hHeld_11 ?_
                        rotate_left
                        · (intro w hSw; (try dsimp only at hSw); go_simp; try with_reducible rfl)
                        try simp only [Act.put, List.setIfInBounds_toArray, List.set_cons_zero, List.set_cons_succ]
                        refine wpAnyH_take (i := 14) (oi := { dst := some 165, op := Op.extract (Operand.tmp 151) 1, type := 4, pos := "outright.go:135", after := #[{ on := 12, ground := Ground.data }, { on := 16, ground := Ground.gcOnly Departure.lateStores }], guard := none }) (v := ?_) rfl (by kernel_rfl) (by kernel_rfl) (by kernel_rfl) (fun _ _ _ h => h) (Or.inl ⟨by rfl, ?_⟩) hHeld_11 ?_
                        rotate_left
                        · (intro w hSw; (try dsimp only at hSw); go_simp; try with_reducible rfl)
                        try simp only [Act.put, List.setIfInBounds_toArray, List.set_cons_zero, List.set_cons_succ]
                        refine wpAnyH_ready (rs := [16]) (by kernel_rfl) (by simp) ?_
                        refine AllReadyH.cons (o := { dst := none, op := Op.store 33 (Operand.tmp 20) (Operand.tmp 164), type := 0, pos := "outright.go:135", after := #[{ on := 15, ground := Ground.data }, { on := 13, ground := Ground.data }, { on := 11, ground := Ground.chain }, { on := 0, ground := Ground.phase }, { on := 1, ground := Ground.phase }, { on := 2, ground := Ground.phase }, { on := 3, ground := Ground.phase }, { on := 4, ground := Ground.phase }, { on := 5, ground := Ground.phase }, { on := 6, ground := Ground.phase }, { on := 7, ground := Ground.phase }, { on := 8, ground := Ground.phase }, { on := 9, ground := Ground.phase }, { on := 10, ground := Ground.phase }, { on := 11, ground := Ground.phase }, { on := 12, ground := Ground.phase }, { on := 13, ground := Ground.phase }, { on := 14, ground := Ground.textOnly Departure.lateStores }, { on := 15, ground := Ground.phase }], guard := none }) rfl (fun K hK => ?_) AllReadyH.nil
                        have m0 : u1511.cell? ⟨B20, 0, none⟩ = some (.int .i64 0) := by simp [World.cell?, HX_u1511.out]
                        have m1 : u1511.cell? ⟨B20, 1, none⟩ = some (.int .i64 0) := by simp [World.cell?, HX_u1511.out]
                        have q0 : u1511.frozen? ⟨B20, 0, none⟩ = false := by simp [World.frozen?, HX_u1511.out]
                        have q1 : u1511.frozen? ⟨B20, 1, none⟩ = false := by simp [World.frozen?, HX_u1511.out]
                        obtain ⟨uE, huE⟩ : ∃ v, v = (u1511.setCell ⟨B20, 0, none⟩ (.int .i64 x)).setCell ⟨B20, 1, none⟩ (.int .i64 y) := ⟨_, rfl⟩
                        have tE : Turn B20 u1511 uE := by rw [huE]; exact (turn_setCell _ _ _ _).trans (turn_setCell _ _ _ _)
                        have SX_uE : Hid (Sub wr uE) := fun q v hq => tE.cell (SX_u1511.out _ _ hq) (by have h1 := World.block_lt_of_cell? _ _ hq; have h2 := LB.out; omega)
                        have BX_uE : Hid (Below B2 w uE) := BX_u1511.out.trans (tE.below (by have := BX_u1511.out.size; rw [HB2.out] at this; exact this) (by have h1 := LB.out; have h2 := INV.out.2.1.size; rw [HB2.out] at h2; omega))
                        go_simp
                        rw [← huE]
                        clear huE m0 m1 q0 q1 tE
                        try go_wp2_with fail
                        refine hK.out _ _ ?_ (fun hHeld_16 => ?_)
                        · exact SS.out _ SX_uE.out
                        clear hK K
                        try simp only [Act.put, List.setIfInBounds_toArray, List.set_cons_zero, List.set_cons_succ]
                        refine wpAnyH_take (i := 17) (oi := { dst := some 21, op := Op.assign (Operand.tmp 165), type := 4, pos := "outright.go:135", after := #[{ on := 14, ground := Ground.data }, { on := 16, ground := Ground.chain }, { on := 0, ground := Ground.phase }, { on := 1, ground := Ground.phase }, { on := 2, ground := Ground.phase }, { on := 3, ground := Ground.phase }, { on := 4, ground := Ground.phase }, { on := 5, ground := Ground.phase }, { on := 6, ground := Ground.phase }, { on := 7, ground := Ground.phase }, { on := 8, ground := Ground.phase }, { on := 9, ground := Ground.phase }, { on := 10, ground := Ground.phase }, { on := 11, ground := Ground.phase }, { on := 12, ground := Ground.phase }, { on := 13, ground := Ground.phase }, { on := 14, ground := Ground.phase }, { on := 15, ground := Ground.phase }, { on := 16, ground := Ground.phase }], guard := none }) (v := ?_) rfl (by kernel_rfl) (by kernel_rfl) (by kernel_rfl) (fun _ _ _ h => h) (Or.inl ⟨by rfl, ?_⟩) hHeld_16 ?_
                        rotate_left
                        · (intro w hSw; (try dsimp only at hSw); go_simp; try with_reducible rfl)
                        try simp only [Act.put, List.setIfInBounds_toArray, List.set_cons_zero, List.set_cons_succ]
                        refine wpAnyH_done (by kernel_rfl) ?_ _
                        have hfe : l.find? (badH sl (isV m r) hv) = some (x, y) := find_at HX.out HBB.out INV.out.2.2
                        have hpp : (px, py) = (x, y) := by have h := HPX.out; rw [hfe] at h; exact h.symm
                        obtain ⟨rfl, rfl⟩ := Prod.mk.inj hpp
                        have ZZ : Hid (∀ w', Sub uE w' → w'.cell? ⟨B10, 0, none⟩ = some (.int .i64 px) ∧ w'.cell? ⟨B10, 1, none⟩ = some (.int .i64 py) ∧ w'.cell? ⟨B2, 0, none⟩ = some (.slice (some ⟨b1, o1, none⟩) nL cL) ∧ w'.cell? ⟨b1, o1 + j * 2, none⟩ = some (.int .i64 px) ∧ w'.cell? ⟨b1, o1 + j * 2 + 1, none⟩ = some (.int .i64 py)) := fun w' h => by
                          have s := (INV.out.1.trans SX_uE.out).trans h
                          obtain ⟨bq, oq, eq, cq, dq'⟩ := PL.out.sub ((SWS.out.trans SF.out).trans s) j _ HX.out
                          cases eq
                          exact ⟨s _ _ X10.out.1, s _ _ X10.out.2, (KF.out w' s).1, cq, dq'⟩
                        clear hfe SS BX HBB
                        go_wp2_with fail
                        refine wp_region_held_drew (S := fun w' => w'.cell? ⟨B10, 0, none⟩ = some (.int .i64 px) ∧ w'.cell? ⟨B10, 1, none⟩ = some (.int .i64 py) ∧ w'.cell? ⟨B2, 0, none⟩ = some (.slice (some ⟨b1, o1, none⟩) nL cL) ∧ w'.cell? ⟨b1, o1 + j * 2, none⟩ = some (.int .i64 px) ∧ w'.cell? ⟨b1, o1 + j * 2 + 1, none⟩ = some (.int .i64 py)) (by kernel_rfl) ?_ (fun hHeld => ?_)
                        · exact ZZ.out _ (fun _ _ h => h)
                        refine wpAnyH_take (i := 0) (oi := { dst := some 167, op := Op.move (Operand.tmp 11), type := 4, pos := "outright.go:137", after := #[], guard := none }) (v := ?_) rfl (by kernel_rfl) (by kernel_rfl) (by kernel_rfl) (fun _ _ _ h => h) (Or.inl ⟨by rfl, ?_⟩) hHeld ?_
                        rotate_left
                        · (intro w hSw; (try dsimp only at hSw); go_simp; try with_reducible rfl)
                        try simp only [Act.put, List.setIfInBounds_toArray, List.set_cons_zero, List.set_cons_succ]
                        refine wpAnyH_take (i := 1) (oi := { dst := some 168, op := Op.unOp UnOp.not 4 (Operand.tmp 167), type := 4, pos := "outright.go:137", after := #[{ on := 0, ground := Ground.data }], guard := none }) (v := ?_) rfl (by kernel_rfl) (by kernel_rfl) (by kernel_rfl) (fun _ _ _ h => h) (Or.inl ⟨by rfl, ?_⟩) hHeld ?_
                        rotate_left
                        · (intro w hSw; (try dsimp only at hSw); go_simp; try with_reducible rfl)
                        try simp only [Act.put, List.setIfInBounds_toArray, List.set_cons_zero, List.set_cons_succ]
                        refine wpAnyH_take (i := 2) (oi := { dst := some 169, op := Op.move (Operand.tmp 168), type := 4, pos := "outright.go:137", after := #[{ on := 1, ground := Ground.data }], guard := none }) (v := ?_) rfl (by kernel_rfl) (by kernel_rfl) (by kernel_rfl) (fun _ _ _ h => h) (Or.inl ⟨by rfl, ?_⟩) hHeld ?_
                        rotate_left
                        · (intro w hSw; (try dsimp only at hSw); go_simp; try with_reducible rfl)
                        try simp only [Act.put, List.setIfInBounds_toArray, List.set_cons_zero, List.set_cons_succ]
                        refine wpAnyH_take (i := 3) (oi := { dst := some 170, op := Op.load 33 (Operand.tmp 10), type := 33, pos := "outright.go:137", after := #[{ on := 2, ground := Ground.guard }], guard := some (2, false) }) (v := ?_) rfl (by kernel_rfl) (by kernel_rfl) (by kernel_rfl) (fun _ _ _ h => h) (Or.inl ⟨by rfl, ?_⟩) hHeld ?_
                        rotate_left
                        · (intro w hSw; (try dsimp only at hSw); go_simp; try with_reducible rfl)
                        try simp only [Act.put, List.setIfInBounds_toArray, List.set_cons_zero, List.set_cons_succ]
                        refine wpAnyH_take (i := 4) (oi := { dst := some 171, op := Op.fieldAddr 25 (Operand.tmp 2) 0, type := 0, pos := "outright.go:137", after := #[{ on := 2, ground := Ground.guard }], guard := some (2, false) }) (v := ?_) rfl (by kernel_rfl) (by kernel_rfl) (by kernel_rfl) (fun _ _ _ h => h) (Or.inl ⟨by rfl, ?_⟩) hHeld ?_
                        rotate_left
                        · (intro w hSw; (try dsimp only at hSw); go_simp; try with_reducible rfl)
                        try simp only [Act.put, List.setIfInBounds_toArray, List.set_cons_zero, List.set_cons_succ]
                        refine wpAnyH_take (i := 5) (oi := { dst := some 172, op := Op.load 22 (Operand.tmp 171), type := 22, pos := "outright.go:137", after := #[{ on := 4, ground := Ground.data }, { on := 2, ground := Ground.guard }], guard := some (2, false) }) (v := ?_) rfl (by kernel_rfl) (by kernel_rfl) (by kernel_rfl) (fun _ _ _ h => h) (Or.inl ⟨by rfl, ?_⟩) hHeld ?_
                        rotate_left
                        · (intro w hSw; (try dsimp only at hSw); go_simp; try with_reducible rfl)
                        try simp only [Act.put, List.setIfInBounds_toArray, List.set_cons_zero, List.set_cons_succ]
                        refine wpAnyH_take (i := 6) (oi := { dst := some 173, op := Op.move (Operand.tmp 19), type := 3, pos := "outright.go:137", after := #[{ on := 2, ground := Ground.guard }], guard := some (2, false) }) (v := ?_) rfl (by kernel_rfl) (by kernel_rfl) (by kernel_rfl) (fun _ _ _ h => h) (Or.inl ⟨by rfl, ?_⟩) hHeld ?_
                        rotate_left
                        · (intro w hSw; (try dsimp only at hSw); go_simp; try with_reducible rfl)
                        try simp only [Act.put, List.setIfInBounds_toArray, List.set_cons_zero, List.set_cons_succ]
                        refine wpAnyH_take (i := 7) (oi := { dst := some 174, op := Op.indexAddr 22 (Operand.tmp 172) (Operand.tmp 173), type := 0, pos := "outright.go:137", after := #[{ on := 5, ground := Ground.data }, { on := 6, ground := Ground.data }, { on := 2, ground := Ground.guard }], guard := some (2, false) }) (v := ?_) rfl (by kernel_rfl) (by kernel_rfl) (by kernel_rfl) (fun _ _ _ h => h) (Or.inl ⟨by rfl, ?_⟩) hHeld ?_
                        rotate_left
                        · (intro w hSw; (try dsimp only at hSw); go_simp; try with_reducible rfl)
                        try simp only [Act.put, List.setIfInBounds_toArray, List.set_cons_zero, List.set_cons_succ]
                        refine wpAnyH_take (i := 8) (oi := { dst := some 175, op := Op.load 33 (Operand.tmp 174), type := 33, pos := "outright.go:137", after := #[{ on := 7, ground := Ground.data }, { on := 2, ground := Ground.guard }], guard := some (2, false) }) (v := ?_) rfl (by kernel_rfl) (by kernel_rfl) (by kernel_rfl) (fun _ _ _ h => h) (Or.inl ⟨by rfl, ?_⟩) hHeld ?_
                        rotate_left
                        · (intro w hSw; (try dsimp only at hSw); go_simp; try with_reducible rfl)
                        try simp only [Act.put, List.setIfInBounds_toArray, List.set_cons_zero, List.set_cons_succ]
                        refine wpAnyH_take (i := 9) (oi := { dst := some 176, op := Op.binOp BinOp.neq 33 (Operand.tmp 170) (Operand.tmp 175) 33, type := 4, pos := "outright.go:137", after := #[{ on := 3, ground := Ground.data }, { on := 8, ground := Ground.data }, { on := 2, ground := Ground.guard }], guard := some (2, false) }) (v := ?_) rfl (by kernel_rfl) (by kernel_rfl) (by kernel_rfl) (fun _ _ _ h => h) (Or.inl ⟨by rfl, ?_⟩) hHeld ?_
                        rotate_left
                        · (intro w hSw; (try dsimp only at hSw); go_simp; try with_reducible rfl)
                        try simp only [Act.put, List.setIfInBounds_toArray, List.set_cons_zero, List.set_cons_succ]
                        refine wpAnyH_take (i := 10) (oi := { dst := some 177, op := Op.pick (Operand.tmp 169) (Operand.const (Value.bool true)) (Operand.tmp 176), type := 4, pos := "outright.go:137", after := #[{ on := 2, ground := Ground.data }, { on := 9, ground := Ground.data }], guard := none }) (v := ?_) rfl (by kernel_rfl) (by kernel_rfl) (by kernel_rfl) (fun _ _ _ h => h) (Or.inl ⟨by rfl, ?_⟩) hHeld ?_
                        rotate_left
                        · (intro w hSw; (try dsimp only at hSw); go_simp; try with_reducible rfl)
                        try simp only [Act.put, List.setIfInBounds_toArray, List.set_cons_zero, List.set_cons_succ]
                        refine wpAnyH_done (by kernel_rfl) ?_ _
                        have INV5 : Hid (Sub wF uE.drew ∧ Below B2 w uE.drew) := ⟨INV.out.1.trans SX_uE.out, ⟨BX_uE.out.os, BX_uE.out.tape, BX_uE.out.output, BX_uE.out.size, BX_uE.out.block⟩⟩
                        obtain ⟨wN, hwN⟩ : ∃ wN, wN = uE.drew := ⟨_, rfl⟩
                        rw [← hwN] at INV5
                        clear INV ZZ hj hlt n1 f1 f2 f3 f4 f5 f6
                        have AO : Hid (l.find? (badH sl (isV m r) mm) = none) := ask_own WB.out DD.out.wl hN hT hfn
                        have C34 : Hid _ := BRE.out wN (some ⟨b1, o1, none⟩) nL cL l ax qm cx mm (SF.out.trans INV5.out.1) HL.out hnL (fun q hq => hq) (PL.out.sub ((SWS.out.trans SF.out).trans INV5.out.1)) QM.out (by omega) ASK.out.up.2.2 (PMF.out.sub INV5.out.1)
                        obtain ⟨k0, k1, k2, k3, k4, k5⟩ := KF.out wN INV5.out.1
                        rw [hwN] at k0 k1 k2 k3 k4 k5
                        go_wp2_with fail
                        rw [← hwN]
                        clear hwN
                        clear k0 k1 k2 k3 k4 k5
                        refine Calls.mono C34.out ?_
                        rintro e wK ⟨rfl, hbK⟩
                        rw [AO.out]
                        simp only [Option.getD_none, Option.isSome_none]
                        obtain ⟨wL, hwL⟩ : ∃ wL, wL = wK.alloc (.cells #[.int .i64 0, .int .i64 0] 33) := ⟨_, rfl⟩
                        have sNL : Below wN.heap.size wN wL := by rw [hwL]; exact hbK.alloc hbK.size _
                        have SLw : Hid (Sub wF wL) := INV5.out.1.trans (sub_below sNL)
                        have BL : Hid (Below B2 w wL) := INV5.out.2.trans (sNL.mono (by have := INV5.out.2.size; rw [HB2.out] at this; exact this))
                        unfold encP
                        clear C34 hbK sNL
                        rcases Nat.eq_zero_or_pos qm with hq0 | hq0
                        · subst hq0
                          go_wp2
                          rw [← hwL]
                          go_ret
                          exact ⟨rfl, BL.out⟩
                        · have g1 : (qm = 0) = False := eq_false (by omega)
                          have RE : Hid _ := rest_any wL d (qm : Int) DD.out.wd (WalkArith.wf_i64 (by omega)) (by omega)
                          go_wp2_with fail
                          rw [← hwL]
                          clear hwL
                          refine Calls.mono RE.out ?_
                          rintro e wz ⟨rfl, hwz⟩
                          subst wz
                          obtain ⟨kN, hkN⟩ : ∃ kN : Nat, d % (qm : Int) = (kN : Int) := ⟨(d % (qm : Int)).toNat, (Int.toNat_of_nonneg (Int.emod_nonneg _ (by omega))).symm⟩
                          have hkq : kN < qm := by have := Int.emod_lt_of_pos d (b := (qm : Int)) (by omega); omega
                          rw [hkN]
                          clear RE hkN
                          obtain ⟨q00, hq00⟩ : ∃ q, mm[0]? = some q := ⟨mm[0]'(by rw [QM.out]; exact hq0), List.getElem?_eq_getElem _⟩
                          obtain ⟨ba, oa, rfl, _, _⟩ := PMF.out 0 _ hq00
                          have PML : Hid (∀ W, Below wL.heap.size wL W → PairsAt W (some ⟨ba, oa, none⟩) mm) := fun W h => (PMF.out.sub SLw.out).under h
                          have HLE : Hid ((l.find? (badH sl (isV m r) (mm.take kN ++ mm.drop (kN + 1)))).isSome = true) := ask_less WB.out DD.out.wl hN hT hfn (by rw [QM.out]; exact hkq)
                          have WLS : Hid (∀ q ∈ mm.take kN ++ mm.drop (kN + 1), wfP q) := fun q hq => ASK.out.up.2.2 q (by
                            rcases List.mem_append.1 hq with hq | hq
                            · exact List.mem_of_mem_take hq
                            · exact List.mem_of_mem_drop hq)
                          have LT : Hid ((mm.take kN).length = kN) := by show _ = _; rw [List.length_take, QM.out]; omega
                          have LD : Hid ((mm.drop (kN + 1)).length = qm - (kN + 1)) := by show _ = _; rw [List.length_drop, QM.out]
                          obtain ⟨i0, hi0, hz0, hz1, hz3⟩ := info_parts info24
                          have h1 : kN ≤ cx := by omega
                          have f1 : IntKind.i64.wrap ((kN : Int) + 1) = ((kN + 1 : Nat) : Int) := by rw [IntWalk.i64_in _ (by omega)]; omega
                          have h2 : kN + 1 ≤ qm := by omega
                          clear hq00
                          by_cases hc : cx = kN + 1
                          · have PD : Hid (∀ W, Below wL.heap.size wL W → PairsAt W (some ⟨ba, oa, none⟩) (mm.drop (kN + 1))) := fun W h i q hi => by
                              have hlt := (List.getElem?_eq_some_iff.1 hi).1
                              rw [LD.out] at hlt
                              omega
                            have g3 : (cx = kN + 1) = True := eq_true hc
                            clear hc
                            go_wp2_with (at_builtin; first
                              | (refine wpList_append_more (w := wL) rfl _ _ _ rfl wL.heap.size 33 i0 _ 2 16 Tryz.underlying22 hi0 hz0 hz1 hz3 rfl (by omega) _ 0 [] (by rfl) (World.ownsRow_nil _ _ _ _) (some ⟨ba, oa, none⟩) kN cx (rowP (mm.take kN)) (by rfl) (by rw [rowP_len, LT.out]) (pairs_row (pairs_take (PML.out wL (Below.refl _ _)) kN)).news (rowP_one _) (by unfold maxLen; omega) (by omega) (Nat.le_refl _) ?_; intro a4 c4 w4 ho4 hb4; rw [Nat.zero_add] at ho4 ⊢; have HO4 : Hid (w4.ownsRow wL.heap.size 33 2 (.slice a4 kN c4) kN (rowP (mm.take kN))) := ho4; have HB4 : Hid (Below wL.heap.size wL w4) := hb4; clear ho4 hb4)
                              | (refine wpList_append_more (w := w4) rfl _ _ _ rfl wL.heap.size 33 i0 _ 2 16 Tryz.underlying22 hi0 hz0 hz1 hz3 rfl (by omega) _ kN (rowP (mm.take kN)) (by rfl) (by exact HO4.out) (some ⟨ba, oa, none⟩) (qm - (kN + 1)) (cx - (kN + 1)) (rowP (mm.drop (kN + 1))) (by rfl) (by rw [rowP_len, LD.out]) (pairs_row (PD.out w4 HB4.out)).news (rowP_one _) (by unfold maxLen; omega) (by omega) (by exact HB4.out.size) ?_; intro a5 c5 w5 ho5 hb5; have HO5 : Hid (w5.ownsRow wL.heap.size 33 2 (.slice a5 (kN + (qm - (kN + 1))) c5) (kN + (qm - (kN + 1))) (rowP (mm.take kN ++ mm.drop (kN + 1)))) := (by rw [rowP_append]; exact ho5); have HB5 : Hid (Below wL.heap.size wL w5) := HB4.out.trans hb5; obtain ⟨k0, k1, k2, k3, k4, k5⟩ := KF.out w5 (SLw.out.trans (sub_below (HB4.out.trans hb5))); clear ho5 hb5))
                            have CL : Hid _ := BRE.out w5 (some ⟨b1, o1, none⟩) nL cL l a5 (kN + (qm - (kN + 1))) c5 (mm.take kN ++ mm.drop (kN + 1)) (SF.out.trans (SLw.out.trans (sub_below HB5.out))) HL.out hnL (fun q hq => hq) (PL.out.sub ((SWS.out.trans SF.out).trans (SLw.out.trans (sub_below HB5.out)))) (by rw [List.length_append, LT.out, LD.out]) (by omega) WLS.out (own_pairs HO5.out)
                            refine Calls.mono CL.out ?_
                            rintro e w6 ⟨rfl, hb6⟩
                            rw [HLE.out]
                            obtain ⟨⟨ux, uy⟩, hu⟩ : ∃ q, (l.find? (badH sl (isV m r) (mm.take kN ++ mm.drop (kN + 1)))).getD (0, 0) = q := ⟨_, rfl⟩
                            rw [hu]
                            have B6 : Hid (Below B2 w w6) := BL.out.trans ((HB5.out.trans (hb6.mono HB5.out.size)).mono (by have := BL.out.size; rw [HB2.out] at this; exact this))
                            unfold encP
                            clear CL hb6 hu k0 k1 k2 k3 k4 k5
                            go_wp2
                            go_ret
                            exact ⟨rfl, B6.out⟩
                          · have PD : Hid (∀ W, Below wL.heap.size wL W → PairsAt W (some ⟨ba, oa + (kN + 1) * 2, none⟩) (mm.drop (kN + 1))) := fun W h => pairs_drop (PML.out W h) (kN + 1)
                            have g3 : (cx = kN + 1) = False := eq_false hc
                            clear hc
                            go_wp2_with (at_builtin; first
                              | (refine wpList_append_more (w := wL) rfl _ _ _ rfl wL.heap.size 33 i0 _ 2 16 Tryz.underlying22 hi0 hz0 hz1 hz3 rfl (by omega) _ 0 [] (by rfl) (World.ownsRow_nil _ _ _ _) (some ⟨ba, oa, none⟩) kN cx (rowP (mm.take kN)) (by rfl) (by rw [rowP_len, LT.out]) (pairs_row (pairs_take (PML.out wL (Below.refl _ _)) kN)).news (rowP_one _) (by unfold maxLen; omega) (by omega) (Nat.le_refl _) ?_; intro a4 c4 w4 ho4 hb4; rw [Nat.zero_add] at ho4 ⊢; have HO4 : Hid (w4.ownsRow wL.heap.size 33 2 (.slice a4 kN c4) kN (rowP (mm.take kN))) := ho4; have HB4 : Hid (Below wL.heap.size wL w4) := hb4; clear ho4 hb4)
                              | (refine wpList_append_more (w := w4) rfl _ _ _ rfl wL.heap.size 33 i0 _ 2 16 Tryz.underlying22 hi0 hz0 hz1 hz3 rfl (by omega) _ kN (rowP (mm.take kN)) (by rfl) (by exact HO4.out) (some ⟨ba, oa + (kN + 1) * 2, none⟩) (qm - (kN + 1)) (cx - (kN + 1)) (rowP (mm.drop (kN + 1))) (by rfl) (by rw [rowP_len, LD.out]) (pairs_row (PD.out w4 HB4.out)).news (rowP_one _) (by unfold maxLen; omega) (by omega) (by exact HB4.out.size) ?_; intro a5 c5 w5 ho5 hb5; have HO5 : Hid (w5.ownsRow wL.heap.size 33 2 (.slice a5 (kN + (qm - (kN + 1))) c5) (kN + (qm - (kN + 1))) (rowP (mm.take kN ++ mm.drop (kN + 1)))) := (by rw [rowP_append]; exact ho5); have HB5 : Hid (Below wL.heap.size wL w5) := HB4.out.trans hb5; obtain ⟨k0, k1, k2, k3, k4, k5⟩ := KF.out w5 (SLw.out.trans (sub_below (HB4.out.trans hb5))); clear ho5 hb5))
                            have CL : Hid _ := BRE.out w5 (some ⟨b1, o1, none⟩) nL cL l a5 (kN + (qm - (kN + 1))) c5 (mm.take kN ++ mm.drop (kN + 1)) (SF.out.trans (SLw.out.trans (sub_below HB5.out))) HL.out hnL (fun q hq => hq) (PL.out.sub ((SWS.out.trans SF.out).trans (SLw.out.trans (sub_below HB5.out)))) (by rw [List.length_append, LT.out, LD.out]) (by omega) WLS.out (own_pairs HO5.out)
                            refine Calls.mono CL.out ?_
                            rintro e w6 ⟨rfl, hb6⟩
                            rw [HLE.out]
                            obtain ⟨⟨ux, uy⟩, hu⟩ : ∃ q, (l.find? (badH sl (isV m r) (mm.take kN ++ mm.drop (kN + 1)))).getD (0, 0) = q := ⟨_, rfl⟩
                            rw [hu]
                            have B6 : Hid (Below B2 w w6) := BL.out.trans ((HB5.out.trans (hb6.mono HB5.out.size)).mono (by have := BL.out.size; rw [HB2.out] at this; exact this))
                            unfold encP
                            clear CL hb6 hu k0 k1 k2 k3 k4 k5
                            go_wp2
                            go_ret
                            exact ⟨rfl, B6.out⟩
                  · have n1 : ¬ (j : Int) < (nL : Int) := by omega
                    exfalso
                    have hall := INV.out.2.2
                    rw [List.take_of_length_le (by rw [HL.out]; omega)] at hall
                    have h := HFB.out
                    rw [find_none hall] at h
                    cases h
          · have hpn : l.find? (badH sl (isV m r) hv) = none := by
              have := HFB.out
              cases hh : l.find? (badH sl (isV m r) hv) with
              | none => rfl
              | some q => rw [hh] at this; cases this
            have hp0 := HPX.out
            rw [hpn] at hp0
            obtain ⟨rfl, rfl⟩ := Prod.mk.inj hp0
            have z100 : wG.cell? ⟨B10, 0, none⟩ = some (.int .i64 0) := INV.out.1 _ _ X10.out.1
            have z101 : wG.cell? ⟨B10, 1, none⟩ = some (.int .i64 0) := INV.out.1 _ _ X10.out.2
            obtain ⟨k0, k1, k2, k3, k4, k5⟩ := KF.out wG INV.out.1
            go_wp2_with fail
            clear k0 k1 k2 k3 k4 k5 z80 z81 z100 z101 n1
            go_loopw [14] (fun iv wx => ∃ j : Nat, j ≤ nL ∧ iv = .int .i64 j ∧ Hid (Sub wF wx ∧ Below B2 w wx ∧ ∀ q ∈ l.take j, badM sl (isV m r) q = false)) (fun iv _ => nL - (intOf iv).toNat)
            case atStart => exact ⟨0, Nat.zero_le _, rfl, INV.out.1, INV.out.2, fun q hq => by simp at hq⟩
            case round =>
              clear INV
              obtain ⟨j, hj, rfl, INV⟩ := hrel
              obtain ⟨k0, k1, k2, k3, k4, k5⟩ := KF.out wr INV.out.1
              by_cases hlt : j < nL
              · have n1 : (j : Int) < (nL : Int) := by omega
                obtain ⟨⟨x, y⟩, hx⟩ : ∃ x, l[j]? = some x := ⟨l[j]'(by rw [HL.out]; exact hlt), List.getElem?_eq_getElem _⟩
                obtain ⟨b1, o1, rfl, c1, d1⟩ := PL.out.sub ((SWS.out.trans SF.out).trans INV.out.1) j _ hx
                have HX : Hid (l[j]? = some (x, y)) := hx
                have f1 : IntKind.i64.wrap ((j : Int) + 1) = ((j + 1 : Nat) : Int) := by rw [IntWalk.i64_in _ (by omega)]; omega
                have f2 : j + 1 - j = 1 := by omega
                have f3 : j + 1 ≤ cL := by omega
                have f4 : j ≤ j + 1 := by omega
                have CX : Hid _ := CAR.out wr (some ⟨b1, o1 + j * 2, none⟩) 1 (cL - j) [(x, y)] (SF.out.trans INV.out.1) rfl (by omega) (fun q hq => by simp at hq; rw [hq]; exact List.mem_of_getElem? hx) (pairs_one c1 d1)
                clear hx
                go_wp2_with fail
                refine Calls.mono CX.out ?_
                intro e wH hcar
                obtain ⟨hbH, ax2, cx2, mm2, ⟨x2, y2⟩, may, rfl, hPm2, hlm2, hask2⟩ := carryU hcar
                have BH : Hid (Below B2 w (wH.alloc (.cells #[.int .i64 x2, .int .i64 y2] 33))) := (INV.out.2.1.trans (hbH.mono (by have := INV.out.2.1.size; rw [HB2.out] at this; exact this))).alloc (by have := INV.out.2.1.size; have := hbH.size; have := HB2.out; omega) _
                have SH : Hid (Sub wF (wH.alloc (.cells #[.int .i64 x2, .int .i64 y2] 33))) := (INV.out.1.trans (sub_below hbH)).trans (sub_below (below_alloc _ _))
                unfold encP
                clear CX hcar hbH hPm2 hlm2 k0 k1 k2 k3 k4 k5
                rcases hask2 with ⟨rfl, _, hf2⟩ | ⟨rfl, _, hf2, _⟩
                · have hbt : badM sl (isV m r) (x, y) = true := by
                    rw [find_one] at hf2
                    split at hf2
                    · assumption
                    · cases hf2
                  exact absurd hbt (by rw [List.find?_eq_none.1 hfn _ (List.mem_of_getElem? HX.out) |> Bool.eq_false_iff.2]; simp)
                · have hbf : badM sl (isV m r) (x, y) = false := by
                    rw [find_one] at hf2
                    split at hf2
                    · cases hf2
                    · rename_i hh; exact Bool.eq_false_iff.2 hh
                  have INV3 : Hid (Sub wF (wH.alloc (.cells #[.int .i64 x2, .int .i64 y2] 33)) ∧ Below B2 w (wH.alloc (.cells #[.int .i64 x2, .int .i64 y2] 33)) ∧ ∀ q ∈ l.take (j + 1), badM sl (isV m r) q = false) := ⟨SH.out, BH.out, fun q hq => by
                    rw [take_pair HX.out, List.mem_append] at hq
                    rcases hq with hq | hq
                    · exact INV.out.2.2 q hq
                    · simp at hq; rw [hq]; exact hbf⟩
                  clear hbf hf2 INV BH SH
                  go_wp2
                  go_roundw
                  case rel => exact ⟨j + 1, by omega, by go_num, INV3.out⟩
                  case measure => simp [intOf]; omega
              · have n1 : ¬ (j : Int) < (nL : Int) := by omega
                have INV3 : Hid (Sub wF wr ∧ Below B2 w wr) := ⟨INV.out.1, INV.out.2.1⟩
                obtain ⟨wJ, hwJ⟩ : ∃ wJ, wJ = wr := ⟨_, rfl⟩
                subst hwJ
                clear INV hj hlt
                go_wp2_with fail
                clear k0 k1 k2 k3 k4 k5 n1
                go_loopw [19] (fun iv wx => ∃ j : Nat, j ≤ nL ∧ iv = .int .i64 j ∧ Hid (Sub wF wx ∧ Below B2 w wx ∧ ∀ q ∈ l.take j, badH sl (isV m r) hv q = false)) (fun iv _ => nL - (intOf iv).toNat)
                case atStart => exact ⟨0, Nat.zero_le _, rfl, INV3.out.1, INV3.out.2, fun q hq => by simp at hq⟩
                case round =>
                  clear INV3
                  obtain ⟨j, hj, rfl, INV⟩ := hrel
                  obtain ⟨k0, k1, k2, k3, k4, k5⟩ := KF.out wr INV.out.1
                  by_cases hlt : j < nL
                  · have n1 : (j : Int) < (nL : Int) := by omega
                    obtain ⟨⟨x, y⟩, hx⟩ : ∃ x, l[j]? = some x := ⟨l[j]'(by rw [HL.out]; exact hlt), List.getElem?_eq_getElem _⟩
                    obtain ⟨b1, o1, rfl, c1, d1⟩ := PL.out.sub ((SWS.out.trans SF.out).trans INV.out.1) j _ hx
                    have HX : Hid (l[j]? = some (x, y)) := hx
                    have f1 : IntKind.i64.wrap ((j : Int) + 1) = ((j + 1 : Nat) : Int) := by rw [IntWalk.i64_in _ (by omega)]; omega
                    have f2 : j + 1 - j = 1 := by omega
                    have f3 : j + 1 ≤ cL := by omega
                    have f4 : j ≤ j + 1 := by omega
                    have f5 : ((0 : Int) ≤ (j : Int) + 1 ∧ (j : Int) + 1 ≤ (cL : Int)) = True := eq_true ⟨by omega, by omega⟩
                    have f6 : (cL = j) = False := eq_false (by omega)
                    have SS : Hid (∀ w', Sub wr w' → w'.cell? ⟨B2, 0, none⟩ = some (.slice (some ⟨b1, o1, none⟩) nL cL) ∧ w'.cell? ⟨B2, 1, none⟩ = some (.slice a0 n0 c0) ∧ w'.cell? ⟨B2, 2, none⟩ = some (.slice aH nH cH) ∧ w'.cell? ⟨B2, 3, none⟩ = some (.int .i64 m) ∧ w'.cell? ⟨B2, 4, none⟩ = some (.int .i64 r) ∧ w'.cell? ⟨B5, 0, none⟩ = some (.slice aS ks cs)) := fun w' h => KF.out w' (INV.out.1.trans h)
                    have SX_0 : Hid (Sub wr wr.drew) := fun _ _ h => h
                    have BX_0 : Hid (Below B2 w wr.drew) := ⟨INV.out.2.1.os, INV.out.2.1.tape, INV.out.2.1.output, INV.out.2.1.size, INV.out.2.1.block⟩
                    have LX_0 : Hid (wr.heap.size ≤ wr.drew.heap.size) := Nat.le_refl _
                    have BXG : Hid (∀ W, Sub wr W → Calls Tryz.prog 11 #[.slice (some ⟨b1, o1 + j * 2, none⟩) 1 (cL - j), .agg #[.slice aS ks cs], .func (.func 10) #[.agg #[.slice (some ⟨b1, o1, none⟩) nL cL, .slice a0 n0 c0, .slice aH nH cH, .int .i64 m, .int .i64 r]] #[], .slice aH nH cH] W fun e w' => BreachIs W w' e sl (isV m r) [(x, y)] hv) := fun W hW => BRE.out W (some ⟨b1, o1 + j * 2, none⟩) 1 (cL - j) [(x, y)] aH nH cH hv ((SF.out.trans INV.out.1).trans hW) rfl (by omega) (fun q hq => by simp at hq; rw [hq]; exact List.mem_of_getElem? hx) (pairs_one (hW _ _ c1) (hW _ _ d1)) HH.out (by omega) DD.out.wh (PH.out.sub (((SWS.out.trans SF.out).trans INV.out.1).trans hW))
                    rcases hbb : badH sl (isV m r) hv (x, y)
                    · have HBB : Hid (badH sl (isV m r) hv (x, y) = false) := hbb
                      have BX : Hid (∀ W, Sub wr W → Calls Tryz.prog 11 #[.slice (some ⟨b1, o1 + j * 2, none⟩) 1 (cL - j), .agg #[.slice aS ks cs], .func (.func 10) #[.agg #[.slice (some ⟨b1, o1, none⟩) nL cL, .slice a0 n0 c0, .slice aH nH cH, .int .i64 m, .int .i64 r]] #[], .slice aH nH cH] W fun e w' => e = .returned (.tuple #[.agg #[.int .i64 0, .int .i64 0], .bool false]) ∧ Below W.heap.size W w') := fun W hW => (BXG.out W hW).mono fun e w' h => by
                        obtain ⟨h1, h2⟩ := h
                        rw [find_one, hbb] at h1
                        exact ⟨h1, h2⟩
                      clear hx hbb BXG c1 d1
                      go_wp2_with fail
                      clear k0 k1 k2 k3 k4 k5
                      refine wp_region_held_drew (S := fun w' => w'.cell? ⟨B2, 0, none⟩ = some (.slice (some ⟨b1, o1, none⟩) nL cL) ∧ w'.cell? ⟨B2, 1, none⟩ = some (.slice a0 n0 c0) ∧ w'.cell? ⟨B2, 2, none⟩ = some (.slice aH nH cH) ∧ w'.cell? ⟨B2, 3, none⟩ = some (.int .i64 m) ∧ w'.cell? ⟨B2, 4, none⟩ = some (.int .i64 r) ∧ w'.cell? ⟨B5, 0, none⟩ = some (.slice aS ks cs)) (by kernel_rfl) ?_ (fun hHeld => ?_)
                      · exact SS.out _ (fun _ _ h => h)
                      refine wpAnyH_take (i := 0) (oi := { dst := some 152, op := Op.fieldAddr 25 (Operand.tmp 2) 0, type := 0, pos := "outright.go:135", after := #[], guard := none }) (v := ?_) rfl (by kernel_rfl) (by kernel_rfl) (by kernel_rfl) (fun _ _ _ h => h) (Or.inl ⟨by rfl, ?_⟩) hHeld ?_
                      rotate_left
                      · (intro w hSw; (try dsimp only at hSw); go_simp; try with_reducible rfl)
                      try simp only [Act.put, List.setIfInBounds_toArray, List.set_cons_zero, List.set_cons_succ]
                      refine wpAnyH_take (i := 1) (oi := { dst := some 153, op := Op.load 22 (Operand.tmp 152), type := 22, pos := "outright.go:135", after := #[{ on := 0, ground := Ground.data }], guard := none }) (v := ?_) rfl (by kernel_rfl) (by kernel_rfl) (by kernel_rfl) (fun _ _ _ h => h) (Or.inl ⟨by rfl, ?_⟩) hHeld ?_
                      rotate_left
                      · (intro w hSw; (try dsimp only at hSw); go_simp; try with_reducible rfl)
                      try simp only [Act.put, List.setIfInBounds_toArray, List.set_cons_zero, List.set_cons_succ]
                      refine wpAnyH_take (i := 2) (oi := { dst := some 154, op := Op.move (Operand.tmp 19), type := 3, pos := "outright.go:135", after := #[], guard := none }) (v := ?_) rfl (by kernel_rfl) (by kernel_rfl) (by kernel_rfl) (fun _ _ _ h => h) (Or.inl ⟨by rfl, ?_⟩) hHeld ?_
                      rotate_left
                      · (intro w hSw; (try dsimp only at hSw); go_simp; try with_reducible rfl)
                      try simp only [Act.put, List.setIfInBounds_toArray, List.set_cons_zero, List.set_cons_succ]
                      refine wpAnyH_take (i := 3) (oi := { dst := some 155, op := Op.move (Operand.tmp 19), type := 3, pos := "outright.go:135", after := #[], guard := none }) (v := ?_) rfl (by kernel_rfl) (by kernel_rfl) (by kernel_rfl) (fun _ _ _ h => h) (Or.inl ⟨by rfl, ?_⟩) hHeld ?_
                      rotate_left
                      · (intro w hSw; (try dsimp only at hSw); go_simp; try with_reducible rfl)
                      try simp only [Act.put, List.setIfInBounds_toArray, List.set_cons_zero, List.set_cons_succ]
                      refine wpAnyH_take (i := 4) (oi := { dst := some 156, op := Op.binOp BinOp.add 3 (Operand.tmp 155) (Operand.const (Value.int IntKind.i64 1)) 3, type := 3, pos := "outright.go:135", after := #[{ on := 3, ground := Ground.data }], guard := none }) (v := ?_) rfl (by kernel_rfl) (by kernel_rfl) (by kernel_rfl) (fun _ _ _ h => h) (Or.inl ⟨by rfl, ?_⟩) hHeld ?_
                      rotate_left
                      · (intro w hSw; (try dsimp only at hSw); go_simp; try with_reducible rfl)
                      try simp only [Act.put, List.setIfInBounds_toArray, List.set_cons_zero, List.set_cons_succ]
                      refine wpAnyH_take (i := 5) (oi := { dst := some 157, op := Op.slice 22 (Operand.tmp 153) (some (Operand.tmp 154)) (some (Operand.tmp 156)) none, type := 22, pos := "outright.go:135", after := #[{ on := 1, ground := Ground.data }, { on := 2, ground := Ground.data }, { on := 4, ground := Ground.data }], guard := none }) (v := ?_) rfl (by kernel_rfl) (by kernel_rfl) (by kernel_rfl) (fun _ _ _ h => h) (Or.inl ⟨by rfl, ?_⟩) hHeld ?_
                      rotate_left
                      · (intro w hSw; (try dsimp only at hSw); go_simp; try with_reducible rfl)
                      try simp only [Act.put, List.setIfInBounds_toArray, List.set_cons_zero, List.set_cons_succ]
                      refine wpAnyH_take (i := 6) (oi := { dst := some 158, op := Op.load 27 (Operand.tmp 5), type := 27, pos := "outright.go:135", after := #[], guard := none }) (v := ?_) rfl (by kernel_rfl) (by kernel_rfl) (by kernel_rfl) (fun _ _ _ h => h) (Or.inl ⟨by rfl, ?_⟩) hHeld ?_
                      rotate_left
                      · (intro w hSw; (try dsimp only at hSw); go_simp; try with_reducible rfl)
                      try simp only [Act.put, List.setIfInBounds_toArray, List.set_cons_zero, List.set_cons_succ]
                      refine wpAnyH_take (i := 7) (oi := { dst := some 159, op := Op.load 25 (Operand.tmp 2), type := 25, pos := "outright.go:135", after := #[], guard := none }) (v := ?_) rfl (by kernel_rfl) (by kernel_rfl) (by kernel_rfl) (fun _ _ _ h => h) (Or.inl ⟨by rfl, ?_⟩) hHeld ?_
                      rotate_left
                      · (intro w hSw; (try dsimp only at hSw); go_simp; try with_reducible rfl)
                      try simp only [Act.put, List.setIfInBounds_toArray, List.set_cons_zero, List.set_cons_succ]
                      refine wpAnyH_take (i := 8) (oi := { dst := some 160, op := Op.makeFunc (Fn.func 10) #[Operand.tmp 159] #[], type := 36, pos := "outright.go:135", after := #[{ on := 7, ground := Ground.data }], guard := none }) (v := ?_) rfl (by kernel_rfl) (by kernel_rfl) (by kernel_rfl) (fun _ _ _ h => h) (Or.inl ⟨by rfl, ?_⟩) hHeld ?_
                      rotate_left
                      · (intro w hSw; (try dsimp only at hSw); go_simp; try with_reducible rfl)
                      try simp only [Act.put, List.setIfInBounds_toArray, List.set_cons_zero, List.set_cons_succ]
                      refine wpAnyH_take (i := 9) (oi := { dst := some 161, op := Op.fieldAddr 25 (Operand.tmp 2) 2, type := 0, pos := "outright.go:135", after := #[], guard := none }) (v := ?_) rfl (by kernel_rfl) (by kernel_rfl) (by kernel_rfl) (fun _ _ _ h => h) (Or.inl ⟨by rfl, ?_⟩) hHeld ?_
                      rotate_left
                      · (intro w hSw; (try dsimp only at hSw); go_simp; try with_reducible rfl)
                      try simp only [Act.put, List.setIfInBounds_toArray, List.set_cons_zero, List.set_cons_succ]
                      refine wpAnyH_take (i := 10) (oi := { dst := some 162, op := Op.load 22 (Operand.tmp 161), type := 22, pos := "outright.go:135", after := #[{ on := 9, ground := Ground.data }], guard := none }) (v := ?_) rfl (by kernel_rfl) (by kernel_rfl) (by kernel_rfl) (fun _ _ _ h => h) (Or.inl ⟨by rfl, ?_⟩) hHeld ?_
                      rotate_left
                      · (intro w hSw; (try dsimp only at hSw); go_simp; try with_reducible rfl)
                      try simp only [Act.put, List.setIfInBounds_toArray, List.set_cons_zero, List.set_cons_succ]
                      refine wpAnyH_ready (rs := [11, 15]) (by kernel_rfl) (by simp) ?_
                      refine AllReadyH.cons (o := { dst := some 163, op := Op.call { callee := Callee.value (Operand.func 11), args := #[Operand.tmp 157, Operand.tmp 158, Operand.tmp 160, Operand.tmp 162], argTypes := #[22, 27, 36, 22] }, type := 37, pos := "outright.go:135", after := #[{ on := 5, ground := Ground.data }, { on := 6, ground := Ground.data }, { on := 8, ground := Ground.data }, { on := 10, ground := Ground.data }], guard := none }) rfl (fun K hK => ?_) (AllReadyH.cons (o := { dst := some 20, op := Op.alloc 33, type := 0, pos := "outright.go:135", after := #[], guard := none }) rfl (fun K hK => ?_) AllReadyH.nil)
                      · have CN : Hid _ := BX.out wr.drew SX_0.out
                        go_simp
                        go_at_call 11
                        refine Calls.mono CN.out ?_
                        rintro e u11 ⟨rfl, hb⟩
                        have SX_u11 : Hid (Sub wr u11) := SX_0.out.trans (sub_below hb)
                        have BX_u11 : Hid (Below B2 w u11) := BX_0.out.trans (hb.mono (by have := BX_0.out.size; rw [HB2.out] at this; exact this))
                        have LX_u11 : Hid (wr.heap.size ≤ u11.heap.size) := Nat.le_trans LX_0.out hb.size
                        clear CN hb
                        try go_wp2_with fail
                        refine hK.out _ _ ?_ (fun hHeld_11 => ?_)
                        · exact SS.out _ SX_u11.out
                        clear hK K
                        try simp only [Act.put, List.setIfInBounds_toArray, List.set_cons_zero, List.set_cons_succ]
                        refine wpAnyH_take (i := 12) (oi := { dst := some 151, op := Op.move (Operand.tmp 163), type := 37, pos := "outright.go:135", after := #[{ on := 11, ground := Ground.data }], guard := none }) (v := ?_) rfl (by kernel_rfl) (by kernel_rfl) (by kernel_rfl) (fun _ _ _ h => h) (Or.inl ⟨by rfl, ?_⟩) hHeld_11 ?_
                        rotate_left
                        · (intro w hSw; (try dsimp only at hSw); go_simp; try with_reducible rfl)
                        try simp only [Act.put, List.setIfInBounds_toArray, List.set_cons_zero, List.set_cons_succ]
                        refine wpAnyH_take (i := 13) (oi := { dst := some 164, op := Op.extract (Operand.tmp 151) 0, type := 33, pos := "outright.go:135", after := #[{ on := 12, ground := Ground.data }], guard := none }) (v := ?_) rfl (by kernel_rfl) (by kernel_rfl) (by kernel_rfl) (fun _ _ _ h => h) (Or.inl ⟨by rfl, ?_⟩) hHeld_11 ?_
                        rotate_left
                        · (intro w hSw; (try dsimp only at hSw); go_simp; try with_reducible rfl)
                        try simp only [Act.put, List.setIfInBounds_toArray, List.set_cons_zero, List.set_cons_succ]
                        refine wpAnyH_take (i := 14) (oi := { dst := some 165, op := Op.extract (Operand.tmp 151) 1, type := 4, pos := "outright.go:135", after := #[{ on := 12, ground := Ground.data }, { on := 16, ground := Ground.gcOnly Departure.lateStores }], guard := none }) (v := ?_) rfl (by kernel_rfl) (by kernel_rfl) (by kernel_rfl) (fun _ _ _ h => h) (Or.inl ⟨by rfl, ?_⟩) hHeld_11 ?_
                        rotate_left
                        · (intro w hSw; (try dsimp only at hSw); go_simp; try with_reducible rfl)
                        try simp only [Act.put, List.setIfInBounds_toArray, List.set_cons_zero, List.set_cons_succ]
                        refine wpAnyH_ready (rs := [15]) (by kernel_rfl) (by simp) ?_
                        refine AllReadyH.cons (o := { dst := some 20, op := Op.alloc 33, type := 0, pos := "outright.go:135", after := #[], guard := none }) rfl (fun K hK => ?_) AllReadyH.nil
                        obtain ⟨u1115, hnw⟩ : ∃ v, v = u11.alloc (.cells #[.int .i64 0, .int .i64 0] 33) := ⟨_, rfl⟩
                        have bnw : Below u11.heap.size u11 u1115 := by rw [hnw]; exact below_alloc _ _
                        have SX_u1115 : Hid (Sub wr u1115) := SX_u11.out.trans (sub_below bnw)
                        have BX_u1115 : Hid (Below B2 w u1115) := BX_u11.out.trans ((show Below u11.heap.size u11 u1115 from ⟨bnw.os, bnw.tape, bnw.output, bnw.size, bnw.block⟩).mono (by have := BX_u11.out.size; rw [HB2.out] at this; exact this))
                        have HX_u11150 : Hid (u1115.heap[u11.heap.size]? = some (.cells #[.int .i64 0, .int .i64 0] 33 (0, 0))) := by rw [hnw]; exact World.alloc_heap_new u11 (.cells #[.int .i64 0, .int .i64 0] 33)
                        have LX_u1115 : Hid (wr.heap.size ≤ u1115.heap.size) := Nat.le_trans LX_u11.out bnw.size
                        have LB20 : Hid (wr.heap.size ≤ u11.heap.size) := LX_u11.out
                        go_simp
                        try rw [← hnw]
                        clear bnw hnw
                        obtain ⟨B20, hB20⟩ : ∃ B, u11.heap.size = B := ⟨_, rfl⟩
                        rw [hB20] at HX_u11150 ⊢
                        have HX_u1115 : Hid (u1115.heap[B20]? = some (.cells #[.int .i64 0, .int .i64 0] 33 (0, 0))) := HX_u11150.out
                        have LB : Hid (wr.heap.size ≤ B20) := by show wr.heap.size ≤ B20; rw [← hB20]; exact LB20.out
                        clear hB20 HX_u11150 LB20
                        try go_wp2_with fail
                        refine hK.out _ _ ?_ (fun hHeld_15 => ?_)
                        · exact SS.out _ SX_u1115.out
                        clear hK K
                        try simp only [Act.put, List.setIfInBounds_toArray, List.set_cons_zero, List.set_cons_succ]
                        refine wpAnyH_ready (rs := [16]) (by kernel_rfl) (by simp) ?_
                        refine AllReadyH.cons (o := { dst := none, op := Op.store 33 (Operand.tmp 20) (Operand.tmp 164), type := 0, pos := "outright.go:135", after := #[{ on := 15, ground := Ground.data }, { on := 13, ground := Ground.data }, { on := 11, ground := Ground.chain }, { on := 0, ground := Ground.phase }, { on := 1, ground := Ground.phase }, { on := 2, ground := Ground.phase }, { on := 3, ground := Ground.phase }, { on := 4, ground := Ground.phase }, { on := 5, ground := Ground.phase }, { on := 6, ground := Ground.phase }, { on := 7, ground := Ground.phase }, { on := 8, ground := Ground.phase }, { on := 9, ground := Ground.phase }, { on := 10, ground := Ground.phase }, { on := 11, ground := Ground.phase }, { on := 12, ground := Ground.phase }, { on := 13, ground := Ground.phase }, { on := 14, ground := Ground.textOnly Departure.lateStores }, { on := 15, ground := Ground.phase }], guard := none }) rfl (fun K hK => ?_) AllReadyH.nil
                        have m0 : u1115.cell? ⟨B20, 0, none⟩ = some (.int .i64 0) := by simp [World.cell?, HX_u1115.out]
                        have m1 : u1115.cell? ⟨B20, 1, none⟩ = some (.int .i64 0) := by simp [World.cell?, HX_u1115.out]
                        have q0 : u1115.frozen? ⟨B20, 0, none⟩ = false := by simp [World.frozen?, HX_u1115.out]
                        have q1 : u1115.frozen? ⟨B20, 1, none⟩ = false := by simp [World.frozen?, HX_u1115.out]
                        obtain ⟨uE, huE⟩ : ∃ v, v = (u1115.setCell ⟨B20, 0, none⟩ (.int .i64 0)).setCell ⟨B20, 1, none⟩ (.int .i64 0) := ⟨_, rfl⟩
                        have tE : Turn B20 u1115 uE := by rw [huE]; exact (turn_setCell _ _ _ _).trans (turn_setCell _ _ _ _)
                        have SX_uE : Hid (Sub wr uE) := fun q v hq => tE.cell (SX_u1115.out _ _ hq) (by have h1 := World.block_lt_of_cell? _ _ hq; have h2 := LB.out; omega)
                        have BX_uE : Hid (Below B2 w uE) := BX_u1115.out.trans (tE.below (by have := BX_u1115.out.size; rw [HB2.out] at this; exact this) (by have h1 := LB.out; have h2 := INV.out.2.1.size; rw [HB2.out] at h2; omega))
                        go_simp
                        rw [← huE]
                        clear huE m0 m1 q0 q1 tE
                        try go_wp2_with fail
                        refine hK.out _ _ ?_ (fun hHeld_16 => ?_)
                        · exact SS.out _ SX_uE.out
                        clear hK K
                        try simp only [Act.put, List.setIfInBounds_toArray, List.set_cons_zero, List.set_cons_succ]
                        refine wpAnyH_take (i := 17) (oi := { dst := some 21, op := Op.assign (Operand.tmp 165), type := 4, pos := "outright.go:135", after := #[{ on := 14, ground := Ground.data }, { on := 16, ground := Ground.chain }, { on := 0, ground := Ground.phase }, { on := 1, ground := Ground.phase }, { on := 2, ground := Ground.phase }, { on := 3, ground := Ground.phase }, { on := 4, ground := Ground.phase }, { on := 5, ground := Ground.phase }, { on := 6, ground := Ground.phase }, { on := 7, ground := Ground.phase }, { on := 8, ground := Ground.phase }, { on := 9, ground := Ground.phase }, { on := 10, ground := Ground.phase }, { on := 11, ground := Ground.phase }, { on := 12, ground := Ground.phase }, { on := 13, ground := Ground.phase }, { on := 14, ground := Ground.phase }, { on := 15, ground := Ground.phase }, { on := 16, ground := Ground.phase }], guard := none }) (v := ?_) rfl (by kernel_rfl) (by kernel_rfl) (by kernel_rfl) (fun _ _ _ h => h) (Or.inl ⟨by rfl, ?_⟩) hHeld_16 ?_
                        rotate_left
                        · (intro w hSw; (try dsimp only at hSw); go_simp; try with_reducible rfl)
                        try simp only [Act.put, List.setIfInBounds_toArray, List.set_cons_zero, List.set_cons_succ]
                        refine wpAnyH_done (by kernel_rfl) ?_ _
                        have INV4 : Hid (Sub wF uE ∧ Below B2 w uE ∧ ∀ q ∈ l.take (j + 1), badH sl (isV m r) hv q = false) := ⟨INV.out.1.trans SX_uE.out, BX_uE.out, fun q hq => by
                          rw [take_pair HX.out, List.mem_append] at hq
                          rcases hq with hq | hq
                          · exact INV.out.2.2 q hq
                          · simp at hq; rw [hq]; exact HBB.out⟩
                        clear INV SS BX HBB
                        go_wp2
                        go_roundw
                        case rel => exact ⟨j + 1, by omega, by go_num, INV4.out⟩
                        case measure => simp [intOf]; omega
                      · obtain ⟨u15, hnw⟩ : ∃ v, v = (wr.alloc (.cells #[.int .i64 0, .int .i64 0] 33)).drew := ⟨_, rfl⟩
                        have bnw : Below wr.heap.size wr u15 := by rw [hnw]; exact (have hh := below_alloc wr (.cells #[.int .i64 0, .int .i64 0] 33); ⟨hh.os, hh.tape, hh.output, hh.size, hh.block⟩)
                        have SX_u15 : Hid (Sub wr u15) := sub_below bnw
                        have BX_u15 : Hid (Below B2 w u15) := BX_0.out.trans ((show Below wr.heap.size wr.drew u15 from ⟨bnw.os, bnw.tape, bnw.output, bnw.size, bnw.block⟩).mono (by have := BX_0.out.size; rw [HB2.out] at this; exact this))
                        have HX_u150 : Hid (u15.heap[wr.heap.size]? = some (.cells #[.int .i64 0, .int .i64 0] 33 (0, 0))) := by rw [hnw]; exact World.alloc_heap_new wr (.cells #[.int .i64 0, .int .i64 0] 33)
                        have LX_u15 : Hid (wr.heap.size ≤ u15.heap.size) := Nat.le_trans LX_0.out bnw.size
                        have LB20 : Hid (wr.heap.size ≤ wr.heap.size) := LX_0.out
                        go_simp
                        try rw [← hnw]
                        clear bnw hnw
                        obtain ⟨B20, hB20⟩ : ∃ B, wr.heap.size = B := ⟨_, rfl⟩
                        rw [hB20] at HX_u150 ⊢
                        have HX_u15 : Hid (u15.heap[B20]? = some (.cells #[.int .i64 0, .int .i64 0] 33 (0, 0))) := HX_u150.out
                        have LB : Hid (wr.heap.size ≤ B20) := by show wr.heap.size ≤ B20; rw [← hB20]; exact LB20.out
                        clear hB20 HX_u150 LB20
                        try go_wp2_with fail
                        refine hK.out _ _ ?_ (fun hHeld_15 => ?_)
                        · exact SS.out _ SX_u15.out
                        clear hK K
                        try simp only [Act.put, List.setIfInBounds_toArray, List.set_cons_zero, List.set_cons_succ]
                        refine wpAnyH_ready (rs := [11]) (by kernel_rfl) (by simp) ?_
                        refine AllReadyH.cons (o := { dst := some 163, op := Op.call { callee := Callee.value (Operand.func 11), args := #[Operand.tmp 157, Operand.tmp 158, Operand.tmp 160, Operand.tmp 162], argTypes := #[22, 27, 36, 22] }, type := 37, pos := "outright.go:135", after := #[{ on := 5, ground := Ground.data }, { on := 6, ground := Ground.data }, { on := 8, ground := Ground.data }, { on := 10, ground := Ground.data }], guard := none }) rfl (fun K hK => ?_) AllReadyH.nil
                        have CN : Hid _ := BX.out u15 SX_u15.out
                        go_simp
                        go_at_call 11
                        refine Calls.mono CN.out ?_
                        rintro e u1511 ⟨rfl, hb⟩
                        have SX_u1511 : Hid (Sub wr u1511) := SX_u15.out.trans (sub_below hb)
                        have BX_u1511 : Hid (Below B2 w u1511) := BX_u15.out.trans (hb.mono (by have := BX_u15.out.size; rw [HB2.out] at this; exact this))
                        have LX_u1511 : Hid (wr.heap.size ≤ u1511.heap.size) := Nat.le_trans LX_u15.out hb.size
                        have HX_u1511 : Hid (u1511.heap[B20]? = some (.cells #[.int .i64 0, .int .i64 0] 33 (0, 0))) := (hb.block _ (Array.getElem?_eq_some_iff.1 HX_u15.out).1).trans HX_u15.out
                        clear CN hb
                        try go_wp2_with fail
                        refine hK.out _ _ ?_ (fun hHeld_11 => ?_)
                        · exact SS.out _ SX_u1511.out
                        clear hK K
                        try simp only [Act.put, List.setIfInBounds_toArray, List.set_cons_zero, List.set_cons_succ]
                        refine wpAnyH_take (i := 12) (oi := { dst := some 151, op := Op.move (Operand.tmp 163), type := 37, pos := "outright.go:135", after := #[{ on := 11, ground := Ground.data }], guard := none }) (v := ?_) rfl (by kernel_rfl) (by kernel_rfl) (by kernel_rfl) (fun _ _ _ h => h) (Or.inl ⟨by rfl, ?_⟩) hHeld_11 ?_
                        rotate_left
                        · (intro w hSw; (try dsimp only at hSw); go_simp; try with_reducible rfl)
                        try simp only [Act.put, List.setIfInBounds_toArray, List.set_cons_zero, List.set_cons_succ]
                        refine wpAnyH_take (i := 13) (oi := { dst := some 164, op := Op.extract (Operand.tmp 151) 0, type := 33, pos := "outright.go:135", after := #[{ on := 12, ground := Ground.data }], guard := none }) (v := ?_) rfl (by kernel_rfl) (by kernel_rfl) (by kernel_rfl) (fun _ _ _ h => h) (Or.inl ⟨by rfl, ?_⟩) hHeld_11 ?_
                        rotate_left
                        · (intro w hSw; (try dsimp only at hSw); go_simp; try with_reducible rfl)
                        try simp only [Act.put, List.setIfInBounds_toArray, List.set_cons_zero, List.set_cons_succ]
                        refine wpAnyH_take (i := 14) (oi := { dst := some 165, op := Op.extract (Operand.tmp 151) 1, type := 4, pos := "outright.go:135", after := #[{ on := 12, ground := Ground.data }, { on := 16, ground := Ground.gcOnly Departure.lateStores }], guard := none }) (v := ?_) rfl (by kernel_rfl) (by kernel_rfl) (by kernel_rfl) (fun _ _ _ h => h) (Or.inl ⟨by rfl, ?_⟩) hHeld_11 ?_
                        rotate_left
                        · (intro w hSw; (try dsimp only at hSw); go_simp; try with_reducible rfl)
                        try simp only [Act.put, List.setIfInBounds_toArray, List.set_cons_zero, List.set_cons_succ]
                        refine wpAnyH_ready (rs := [16]) (by kernel_rfl) (by simp) ?_
                        refine AllReadyH.cons (o := { dst := none, op := Op.store 33 (Operand.tmp 20) (Operand.tmp 164), type := 0, pos := "outright.go:135", after := #[{ on := 15, ground := Ground.data }, { on := 13, ground := Ground.data }, { on := 11, ground := Ground.chain }, { on := 0, ground := Ground.phase }, { on := 1, ground := Ground.phase }, { on := 2, ground := Ground.phase }, { on := 3, ground := Ground.phase }, { on := 4, ground := Ground.phase }, { on := 5, ground := Ground.phase }, { on := 6, ground := Ground.phase }, { on := 7, ground := Ground.phase }, { on := 8, ground := Ground.phase }, { on := 9, ground := Ground.phase }, { on := 10, ground := Ground.phase }, { on := 11, ground := Ground.phase }, { on := 12, ground := Ground.phase }, { on := 13, ground := Ground.phase }, { on := 14, ground := Ground.textOnly Departure.lateStores }, { on := 15, ground := Ground.phase }], guard := none }) rfl (fun K hK => ?_) AllReadyH.nil
                        have m0 : u1511.cell? ⟨B20, 0, none⟩ = some (.int .i64 0) := by simp [World.cell?, HX_u1511.out]
                        have m1 : u1511.cell? ⟨B20, 1, none⟩ = some (.int .i64 0) := by simp [World.cell?, HX_u1511.out]
                        have q0 : u1511.frozen? ⟨B20, 0, none⟩ = false := by simp [World.frozen?, HX_u1511.out]
                        have q1 : u1511.frozen? ⟨B20, 1, none⟩ = false := by simp [World.frozen?, HX_u1511.out]
                        obtain ⟨uE, huE⟩ : ∃ v, v = (u1511.setCell ⟨B20, 0, none⟩ (.int .i64 0)).setCell ⟨B20, 1, none⟩ (.int .i64 0) := ⟨_, rfl⟩
                        have tE : Turn B20 u1511 uE := by rw [huE]; exact (turn_setCell _ _ _ _).trans (turn_setCell _ _ _ _)
                        have SX_uE : Hid (Sub wr uE) := fun q v hq => tE.cell (SX_u1511.out _ _ hq) (by have h1 := World.block_lt_of_cell? _ _ hq; have h2 := LB.out; omega)
                        have BX_uE : Hid (Below B2 w uE) := BX_u1511.out.trans (tE.below (by have := BX_u1511.out.size; rw [HB2.out] at this; exact this) (by have h1 := LB.out; have h2 := INV.out.2.1.size; rw [HB2.out] at h2; omega))
                        go_simp
                        rw [← huE]
                        clear huE m0 m1 q0 q1 tE
                        try go_wp2_with fail
                        refine hK.out _ _ ?_ (fun hHeld_16 => ?_)
                        · exact SS.out _ SX_uE.out
                        clear hK K
                        try simp only [Act.put, List.setIfInBounds_toArray, List.set_cons_zero, List.set_cons_succ]
                        refine wpAnyH_take (i := 17) (oi := { dst := some 21, op := Op.assign (Operand.tmp 165), type := 4, pos := "outright.go:135", after := #[{ on := 14, ground := Ground.data }, { on := 16, ground := Ground.chain }, { on := 0, ground := Ground.phase }, { on := 1, ground := Ground.phase }, { on := 2, ground := Ground.phase }, { on := 3, ground := Ground.phase }, { on := 4, ground := Ground.phase }, { on := 5, ground := Ground.phase }, { on := 6, ground := Ground.phase }, { on := 7, ground := Ground.phase }, { on := 8, ground := Ground.phase }, { on := 9, ground := Ground.phase }, { on := 10, ground := Ground.phase }, { on := 11, ground := Ground.phase }, { on := 12, ground := Ground.phase }, { on := 13, ground := Ground.phase }, { on := 14, ground := Ground.phase }, { on := 15, ground := Ground.phase }, { on := 16, ground := Ground.phase }], guard := none }) (v := ?_) rfl (by kernel_rfl) (by kernel_rfl) (by kernel_rfl) (fun _ _ _ h => h) (Or.inl ⟨by rfl, ?_⟩) hHeld_16 ?_
                        rotate_left
                        · (intro w hSw; (try dsimp only at hSw); go_simp; try with_reducible rfl)
                        try simp only [Act.put, List.setIfInBounds_toArray, List.set_cons_zero, List.set_cons_succ]
                        refine wpAnyH_done (by kernel_rfl) ?_ _
                        have INV4 : Hid (Sub wF uE ∧ Below B2 w uE ∧ ∀ q ∈ l.take (j + 1), badH sl (isV m r) hv q = false) := ⟨INV.out.1.trans SX_uE.out, BX_uE.out, fun q hq => by
                          rw [take_pair HX.out, List.mem_append] at hq
                          rcases hq with hq | hq
                          · exact INV.out.2.2 q hq
                          · simp at hq; rw [hq]; exact HBB.out⟩
                        clear INV SS BX HBB
                        go_wp2
                        go_roundw
                        case rel => exact ⟨j + 1, by omega, by go_num, INV4.out⟩
                        case measure => simp [intOf]; omega
                    · exact absurd hbb (by rw [Bool.eq_false_iff.2 (List.find?_eq_none.1 hpn _ (List.mem_of_getElem? hx))]; simp)
                  · have n1 : ¬ (j : Int) < (nL : Int) := by omega
                    have INV5 : Hid (Sub wF wr ∧ Below B2 w wr) := ⟨INV.out.1, INV.out.2.1⟩
                    obtain ⟨wN, hwN⟩ : ∃ wN, wN = wr := ⟨_, rfl⟩
                    subst hwN
                    clear INV hj hlt
                    have AO : Hid (l.find? (badH sl (isV m r) mm) = none) := ask_own WB.out DD.out.wl hN hT hfn
                    have C34 : Hid _ := BRE.out wN aL nL cL l ax qm cx mm (SF.out.trans INV5.out.1) HL.out hnL (fun q hq => hq) (PL.out.sub ((SWS.out.trans SF.out).trans INV5.out.1)) QM.out (by omega) ASK.out.up.2.2 (PMF.out.sub INV5.out.1)
                    obtain ⟨k0, k1, k2, k3, k4, k5⟩ := KF.out wN INV5.out.1
                    go_wp2_with fail
                    clear k0 k1 k2 k3 k4 k5
                    refine Calls.mono C34.out ?_
                    rintro e wK ⟨rfl, hbK⟩
                    rw [AO.out]
                    simp only [Option.getD_none, Option.isSome_none]
                    obtain ⟨wL, hwL⟩ : ∃ wL, wL = wK.alloc (.cells #[.int .i64 0, .int .i64 0] 33) := ⟨_, rfl⟩
                    have sNL : Below wN.heap.size wN wL := by rw [hwL]; exact hbK.alloc hbK.size _
                    have SLw : Hid (Sub wF wL) := INV5.out.1.trans (sub_below sNL)
                    have BL : Hid (Below B2 w wL) := INV5.out.2.trans (sNL.mono (by have := INV5.out.2.size; rw [HB2.out] at this; exact this))
                    unfold encP
                    clear C34 hbK sNL
                    rcases Nat.eq_zero_or_pos qm with hq0 | hq0
                    · subst hq0
                      go_wp2
                      rw [← hwL]
                      go_ret
                      exact ⟨rfl, BL.out⟩
                    · have g1 : (qm = 0) = False := eq_false (by omega)
                      have RE : Hid _ := rest_any wL d (qm : Int) DD.out.wd (WalkArith.wf_i64 (by omega)) (by omega)
                      go_wp2_with fail
                      rw [← hwL]
                      clear hwL
                      refine Calls.mono RE.out ?_
                      rintro e wz ⟨rfl, hwz⟩
                      subst wz
                      obtain ⟨kN, hkN⟩ : ∃ kN : Nat, d % (qm : Int) = (kN : Int) := ⟨(d % (qm : Int)).toNat, (Int.toNat_of_nonneg (Int.emod_nonneg _ (by omega))).symm⟩
                      have hkq : kN < qm := by have := Int.emod_lt_of_pos d (b := (qm : Int)) (by omega); omega
                      rw [hkN]
                      clear RE hkN
                      obtain ⟨q00, hq00⟩ : ∃ q, mm[0]? = some q := ⟨mm[0]'(by rw [QM.out]; exact hq0), List.getElem?_eq_getElem _⟩
                      obtain ⟨ba, oa, rfl, _, _⟩ := PMF.out 0 _ hq00
                      have PML : Hid (∀ W, Below wL.heap.size wL W → PairsAt W (some ⟨ba, oa, none⟩) mm) := fun W h => (PMF.out.sub SLw.out).under h
                      have HLE : Hid ((l.find? (badH sl (isV m r) (mm.take kN ++ mm.drop (kN + 1)))).isSome = true) := ask_less WB.out DD.out.wl hN hT hfn (by rw [QM.out]; exact hkq)
                      have WLS : Hid (∀ q ∈ mm.take kN ++ mm.drop (kN + 1), wfP q) := fun q hq => ASK.out.up.2.2 q (by
                        rcases List.mem_append.1 hq with hq | hq
                        · exact List.mem_of_mem_take hq
                        · exact List.mem_of_mem_drop hq)
                      have LT : Hid ((mm.take kN).length = kN) := by show _ = _; rw [List.length_take, QM.out]; omega
                      have LD : Hid ((mm.drop (kN + 1)).length = qm - (kN + 1)) := by show _ = _; rw [List.length_drop, QM.out]
                      obtain ⟨i0, hi0, hz0, hz1, hz3⟩ := info_parts info24
                      have h1 : kN ≤ cx := by omega
                      have f1 : IntKind.i64.wrap ((kN : Int) + 1) = ((kN + 1 : Nat) : Int) := by rw [IntWalk.i64_in _ (by omega)]; omega
                      have h2 : kN + 1 ≤ qm := by omega
                      clear hq00
                      by_cases hc : cx = kN + 1
                      · have PD : Hid (∀ W, Below wL.heap.size wL W → PairsAt W (some ⟨ba, oa, none⟩) (mm.drop (kN + 1))) := fun W h i q hi => by
                          have hlt := (List.getElem?_eq_some_iff.1 hi).1
                          rw [LD.out] at hlt
                          omega
                        have g3 : (cx = kN + 1) = True := eq_true hc
                        clear hc
                        go_wp2_with (at_builtin; first
                          | (refine wpList_append_more (w := wL) rfl _ _ _ rfl wL.heap.size 33 i0 _ 2 16 Tryz.underlying22 hi0 hz0 hz1 hz3 rfl (by omega) _ 0 [] (by rfl) (World.ownsRow_nil _ _ _ _) (some ⟨ba, oa, none⟩) kN cx (rowP (mm.take kN)) (by rfl) (by rw [rowP_len, LT.out]) (pairs_row (pairs_take (PML.out wL (Below.refl _ _)) kN)).news (rowP_one _) (by unfold maxLen; omega) (by omega) (Nat.le_refl _) ?_; intro a4 c4 w4 ho4 hb4; rw [Nat.zero_add] at ho4 ⊢; have HO4 : Hid (w4.ownsRow wL.heap.size 33 2 (.slice a4 kN c4) kN (rowP (mm.take kN))) := ho4; have HB4 : Hid (Below wL.heap.size wL w4) := hb4; clear ho4 hb4)
                          | (refine wpList_append_more (w := w4) rfl _ _ _ rfl wL.heap.size 33 i0 _ 2 16 Tryz.underlying22 hi0 hz0 hz1 hz3 rfl (by omega) _ kN (rowP (mm.take kN)) (by rfl) (by exact HO4.out) (some ⟨ba, oa, none⟩) (qm - (kN + 1)) (cx - (kN + 1)) (rowP (mm.drop (kN + 1))) (by rfl) (by rw [rowP_len, LD.out]) (pairs_row (PD.out w4 HB4.out)).news (rowP_one _) (by unfold maxLen; omega) (by omega) (by exact HB4.out.size) ?_; intro a5 c5 w5 ho5 hb5; have HO5 : Hid (w5.ownsRow wL.heap.size 33 2 (.slice a5 (kN + (qm - (kN + 1))) c5) (kN + (qm - (kN + 1))) (rowP (mm.take kN ++ mm.drop (kN + 1)))) := (by rw [rowP_append]; exact ho5); have HB5 : Hid (Below wL.heap.size wL w5) := HB4.out.trans hb5; obtain ⟨k0, k1, k2, k3, k4, k5⟩ := KF.out w5 (SLw.out.trans (sub_below (HB4.out.trans hb5))); clear ho5 hb5))
                        have CL : Hid _ := BRE.out w5 aL nL cL l a5 (kN + (qm - (kN + 1))) c5 (mm.take kN ++ mm.drop (kN + 1)) (SF.out.trans (SLw.out.trans (sub_below HB5.out))) HL.out hnL (fun q hq => hq) (PL.out.sub ((SWS.out.trans SF.out).trans (SLw.out.trans (sub_below HB5.out)))) (by rw [List.length_append, LT.out, LD.out]) (by omega) WLS.out (own_pairs HO5.out)
                        refine Calls.mono CL.out ?_
                        rintro e w6 ⟨rfl, hb6⟩
                        rw [HLE.out]
                        obtain ⟨⟨ux, uy⟩, hu⟩ : ∃ q, (l.find? (badH sl (isV m r) (mm.take kN ++ mm.drop (kN + 1)))).getD (0, 0) = q := ⟨_, rfl⟩
                        rw [hu]
                        have B6 : Hid (Below B2 w w6) := BL.out.trans ((HB5.out.trans (hb6.mono HB5.out.size)).mono (by have := BL.out.size; rw [HB2.out] at this; exact this))
                        unfold encP
                        clear CL hb6 hu k0 k1 k2 k3 k4 k5
                        go_wp2
                        go_ret
                        exact ⟨rfl, B6.out⟩
                      · have PD : Hid (∀ W, Below wL.heap.size wL W → PairsAt W (some ⟨ba, oa + (kN + 1) * 2, none⟩) (mm.drop (kN + 1))) := fun W h => pairs_drop (PML.out W h) (kN + 1)
                        have g3 : (cx = kN + 1) = False := eq_false hc
                        clear hc
                        go_wp2_with (at_builtin; first
                          | (refine wpList_append_more (w := wL) rfl _ _ _ rfl wL.heap.size 33 i0 _ 2 16 Tryz.underlying22 hi0 hz0 hz1 hz3 rfl (by omega) _ 0 [] (by rfl) (World.ownsRow_nil _ _ _ _) (some ⟨ba, oa, none⟩) kN cx (rowP (mm.take kN)) (by rfl) (by rw [rowP_len, LT.out]) (pairs_row (pairs_take (PML.out wL (Below.refl _ _)) kN)).news (rowP_one _) (by unfold maxLen; omega) (by omega) (Nat.le_refl _) ?_; intro a4 c4 w4 ho4 hb4; rw [Nat.zero_add] at ho4 ⊢; have HO4 : Hid (w4.ownsRow wL.heap.size 33 2 (.slice a4 kN c4) kN (rowP (mm.take kN))) := ho4; have HB4 : Hid (Below wL.heap.size wL w4) := hb4; clear ho4 hb4)
                          | (refine wpList_append_more (w := w4) rfl _ _ _ rfl wL.heap.size 33 i0 _ 2 16 Tryz.underlying22 hi0 hz0 hz1 hz3 rfl (by omega) _ kN (rowP (mm.take kN)) (by rfl) (by exact HO4.out) (some ⟨ba, oa + (kN + 1) * 2, none⟩) (qm - (kN + 1)) (cx - (kN + 1)) (rowP (mm.drop (kN + 1))) (by rfl) (by rw [rowP_len, LD.out]) (pairs_row (PD.out w4 HB4.out)).news (rowP_one _) (by unfold maxLen; omega) (by omega) (by exact HB4.out.size) ?_; intro a5 c5 w5 ho5 hb5; have HO5 : Hid (w5.ownsRow wL.heap.size 33 2 (.slice a5 (kN + (qm - (kN + 1))) c5) (kN + (qm - (kN + 1))) (rowP (mm.take kN ++ mm.drop (kN + 1)))) := (by rw [rowP_append]; exact ho5); have HB5 : Hid (Below wL.heap.size wL w5) := HB4.out.trans hb5; obtain ⟨k0, k1, k2, k3, k4, k5⟩ := KF.out w5 (SLw.out.trans (sub_below (HB4.out.trans hb5))); clear ho5 hb5))
                        have CL : Hid _ := BRE.out w5 aL nL cL l a5 (kN + (qm - (kN + 1))) c5 (mm.take kN ++ mm.drop (kN + 1)) (SF.out.trans (SLw.out.trans (sub_below HB5.out))) HL.out hnL (fun q hq => hq) (PL.out.sub ((SWS.out.trans SF.out).trans (SLw.out.trans (sub_below HB5.out)))) (by rw [List.length_append, LT.out, LD.out]) (by omega) WLS.out (own_pairs HO5.out)
                        refine Calls.mono CL.out ?_
                        rintro e w6 ⟨rfl, hb6⟩
                        rw [HLE.out]
                        obtain ⟨⟨ux, uy⟩, hu⟩ : ∃ q, (l.find? (badH sl (isV m r) (mm.take kN ++ mm.drop (kN + 1)))).getD (0, 0) = q := ⟨_, rfl⟩
                        rw [hu]
                        have B6 : Hid (Below B2 w w6) := BL.out.trans ((HB5.out.trans (hb6.mono HB5.out.size)).mono (by have := BL.out.size; rw [HB2.out] at this; exact this))
                        unfold encP
                        clear CL hb6 hu k0 k1 k2 k3 k4 k5
                        go_wp2
                        go_ret
                        exact ⟨rfl, B6.out⟩
end Go.Proofs.YtjaccgkeldabfaaGreat
