/- DistThen: the walk. -/
import Derived.Test.YtjaccgkeldabfaaGreatThenGiven
import Derived.Laws.StructEq
namespace Go.Proofs.YtjaccgkeldabfaaGreat
open Go.RowKit

set_option maxRecDepth 100000 in
set_option maxHeartbeats 32000000 in
theorem then_walk (w : World) (aL : Option Addr) (nL cL : Nat) (l : List Pr) (a1 : Option Addr) (n1 c1 : Nat) (vs1 : List (Int × Value)) (b1 : List (Int × List Int)) (a2 : Option Addr) (n2 c2 : Nat) (vs2 : List (Int × Value)) (b2 : List (Int × List Int)) (U : List Int)
    (hl : l.length = nL) (hnL : nL ≤ 1048576) (hl1 : b1.length = n1) (hn1 : n1 ≤ 1048576) (hl2 : b2.length = n2) (hn2 : n2 ≤ 1048576) (hL : PairsAt w aL l) (hR1 : S.RowAt w a1 (S.rowB vs1)) (hM1 : S.Matches w vs1 b1) (hR2 : S.RowAt w a2 (S.rowB vs2)) (hM2 : S.Matches w vs2 b2) (G : Given l b1 b2 U) :
    Calls Tryz.prog 4 #[.slice aL nL cL, .slice a1 n1 c1, .slice a2 n2 c2] w fun e w' => e = .returned (.bool true) ∧ Below w.heap.size w w' := by
  have GG : Hid (Given l b1 b2 U) := G
  have HL : Hid (l.length = nL) := hl
  have PL : Hid (PairsAt w aL l) := hL
  have CELL : Hid (∀ (vs : List (Int × Value)) (a : Option Addr) (b : List (Int × List Int)) (n : Nat), S.RowAt w a (S.rowB vs) → S.Matches w vs b → b.length = n → ∀ W, Sub w W → ∀ i, i < n → ∃ bb off aa k cc, a = some ⟨bb, off, none⟩ ∧ W.cell? ⟨bb, off + i * 2 + 1, none⟩ = some (.slice aa k cc)) := fun vs a b n hR hM hb W hs i hi => by
    obtain ⟨aa, cc, hv, _⟩ := hM.2 i b[i] (List.getElem?_eq_getElem (by omega))
    obtain ⟨_, r2⟩ := S.rowB_at vs i _ hv
    obtain ⟨bb, off, rfl, hc⟩ := hR _ _ r2
    exact ⟨bb, off, aa, _, cc, rfl, by rw [Nat.add_assoc]; exact hs _ _ hc⟩
  have CELL1 : Hid (∀ W, Sub w W → ∀ i, i < n1 → ∃ bb off aa k cc, a1 = some ⟨bb, off, none⟩ ∧ W.cell? ⟨bb, off + i * 2 + 1, none⟩ = some (.slice aa k cc)) := fun W hs i hi => CELL.out vs1 a1 b1 n1 hR1 hM1 hl1 W hs i hi
  have CELL2 : Hid (∀ W, Sub w W → ∀ i, i < n2 → ∃ bb off aa k cc, a2 = some ⟨bb, off, none⟩ ∧ W.cell? ⟨bb, off + i * 2 + 1, none⟩ = some (.slice aa k cc)) := fun W hs i hi => CELL.out vs2 a2 b2 n2 hR2 hM2 hl2 W hs i hi
  have CN1 : Hid _ := newU w a1 n1 c1 vs1 b1 hl1 (by omega) (fun q hq => by have := G.g1 q hq; omega) hR1 hM1
  have NEW2 : Hid (∀ W, Below w.heap.size w W → Calls Tryz.prog 7 #[.slice a2 n2 c2] W fun e w' => Below W.heap.size W w' ∧ ∃ (sl : List (Int × List Int)) (a1 : Option Addr) (c1 : Nat) (er : Int), e = .returned (.tuple #[.agg #[.slice a1 sl.length c1], .int .i64 er]) ∧ S.BindsC w' a1 sl.length sl ∧ (er = 40 ∨ (er = 0 ∧ sl.Perm b2 ∧ (b2.map (·.1)).Nodup))) := fun W hb =>
    newU W a2 n2 c2 vs2 b2 hl2 (by omega) (fun q hq => by have := G.g2 q hq; omega) (hR2.under hb) (hM2.under hb)
  have HN1 : Hid (b1.length = n1) := hl1
  have HN2 : Hid (b2.length = n2) := hl2
  clear hl hL hR1 hM1 hR2 hM2 G CELL hl1 hl2
  go_enter Tryz.func4, Tryz.ntmps4
  go_wp2_with fail
  refine Calls.mono CN1.out ?_
  rintro e w1 ⟨hb1, sl, aS, cs, er1, rfl, hC1, hcase1⟩
  obtain ⟨ks, hks⟩ : ∃ k, sl.length = k := ⟨_, rfl⟩
  have KSl : Hid (sl.length = ks) := hks
  rw [hks] at hC1 ⊢
  obtain ⟨wA, hwA⟩ : ∃ wA, wA = w1.alloc (.cells #[.slice aS ks cs] 27) := ⟨_, rfl⟩
  have BA : Hid (Below w.heap.size w wA) := by rw [hwA]; exact hb1.alloc hb1.size _
  have BC1 : Hid (S.BindsC wA aS ks sl) := by rw [hwA]; exact hC1.under (S.below_alloc _ _)
  have k7 : wA.cell? ⟨w1.heap.size, 0, none⟩ = some (.slice aS ks cs) := by rw [hwA]; exact World.cell?_alloc_new w1 _ _ 0
  have CASE1 : Hid (er1 = 40 ∨ (er1 = 0 ∧ sl.Perm b1 ∧ (b1.map (·.1)).Nodup)) := hcase1
  have CN2 : Hid _ := NEW2.out wA BA.out
  clear CN1 hb1 hC1 hcase1 hks NEW2
  go_wp2_with fail
  rw [← hwA]
  refine Calls.mono CN2.out ?_
  rintro e w2 ⟨hb2, tl, aT, ct, er2, rfl, hC2, hcase2⟩
  obtain ⟨kt, hkt⟩ : ∃ k, tl.length = k := ⟨_, rfl⟩
  have KTl : Hid (tl.length = kt) := hkt
  rw [hkt] at hC2 ⊢
  obtain ⟨wB, hwB⟩ : ∃ wB, wB = w2.alloc (.cells #[.slice aT kt ct] 27) := ⟨_, rfl⟩
  have bAB : Below wA.heap.size wA wB := by rw [hwB]; exact hb2.alloc hb2.size _
  have BB : Hid (Below w.heap.size w wB) := BA.out.trans (bAB.mono BA.out.size)
  have BS : Hid (S.BindsC wB aS ks sl) := BC1.out.under bAB
  have BT : Hid (S.BindsC wB aT kt tl) := by rw [hwB]; exact hC2.under (S.below_alloc _ _)
  have m7 : wB.cell? ⟨w1.heap.size, 0, none⟩ = some (.slice aS ks cs) := sub_below bAB _ _ k7
  have m9 : wB.cell? ⟨w2.heap.size, 0, none⟩ = some (.slice aT kt ct) := by rw [hwB]; exact World.cell?_alloc_new w2 _ _ 0
  have CASE2 : Hid (er2 = 40 ∨ (er2 = 0 ∧ tl.Perm b2 ∧ (b2.map (·.1)).Nodup)) := hcase2
  generalize hB7 : w1.heap.size = B7 at *
  generalize hB9 : w2.heap.size = B9 at *
  clear CN2 hb2 hC2 hcase2 hkt k7 BC1 BA hwA bAB
  rcases CASE1.out with h40 | ⟨h0, hp1, hd1⟩
  · subst h40
    go_wp2
    rw [← hwB]
    go_ret
    exact ⟨rfl, BB.out⟩
  subst h0
  rcases CASE2.out with h40 | ⟨h0, hp2, hd2⟩
  · subst h40
    go_wp2
    rw [← hwB]
    go_ret
    exact ⟨rfl, BB.out⟩
  subst h0
  have P1 : Hid (sl.Perm b1 ∧ (b1.map (·.1)).Nodup) := ⟨hp1, hd1⟩
  have P2 : Hid (tl.Perm b2 ∧ (b2.map (·.1)).Nodup) := ⟨hp2, hd2⟩
  have hks2 : ks ≤ 1048576 := by rw [← KSl.out, hp1.length_eq, HN1.out]; exact hn1
  have hkt2 : kt ≤ 1048576 := by rw [← KTl.out, hp2.length_eq, HN2.out]; exact hn2
  have CN3 : Hid _ := thenU wB aS ks cs sl aT kt ct tl (by omega) BS.out BT.out (fun q hq => by have := GG.out.g1 q (hp1.mem_iff.1 hq); omega)
  clear CASE1 CASE2 hp1 hp2 hd1 hd2
  have M79 : Hid (wB.cell? ⟨B7, 0, none⟩ = some (.slice aS ks cs) ∧ wB.cell? ⟨B9, 0, none⟩ = some (.slice aT kt ct)) := ⟨m7, m9⟩
  rw [hwB] at m7 m9
  go_wp2_with fail
  rw [← hwB]
  refine Calls.mono CN3.out ?_
  rintro e w3 ⟨hb3, ul, au, cu, er3, rfl, hC3, hcase3⟩
  obtain ⟨ku, hku⟩ : ∃ k, ul.length = k := ⟨_, rfl⟩
  have KUl : Hid (ul.length = ku) := hku
  rw [hku] at hC3 ⊢
  obtain ⟨wC, hwC⟩ : ∃ wC, wC = w3.alloc (.cells #[.slice au ku cu] 27) := ⟨_, rfl⟩
  have bBC : Below wB.heap.size wB wC := by rw [hwC]; exact hb3.alloc hb3.size _
  have BC : Hid (Below w.heap.size w wC) := BB.out.trans (bBC.mono BB.out.size)
  have CS : Hid (S.BindsAt wC aS ks sl) := (BS.out.under bBC).binds
  have CT : Hid (S.BindsAt wC aT kt tl) := (BT.out.under bBC).binds
  have CU : Hid (S.BindsAt wC au ku ul) := by rw [hwC]; exact (hC3.under (S.below_alloc _ _)).binds
  have i7 : wC.cell? ⟨B7, 0, none⟩ = some (.slice aS ks cs) := sub_below bBC _ _ M79.out.1
  have i9 : wC.cell? ⟨B9, 0, none⟩ = some (.slice aT kt ct) := sub_below bBC _ _ M79.out.2
  have i11 : wC.cell? ⟨w3.heap.size, 0, none⟩ = some (.slice au ku cu) := by rw [hwC]; exact World.cell?_alloc_new w3 _ _ 0
  have CASE3 : Hid (er3 = 31 ∨ (er3 = 0 ∧ ul.Perm ((S.widen sl tl).map (S.behind tl)) ∧ ∀ p ∈ S.widen sl tl, (S.subs tl p.2).length ≤ 200)) := hcase3
  have I7 : Hid (wC.cell? ⟨B7, 0, none⟩ = some (.slice aS ks cs) ∧ wC.cell? ⟨B9, 0, none⟩ = some (.slice aT kt ct) ∧ wC.cell? ⟨w3.heap.size, 0, none⟩ = some (.slice au ku cu)) := ⟨i7, i9, i11⟩
  generalize hB11 : w3.heap.size = B11 at *
  clear CN3 hb3 hC3 hcase3 hku m7 m9 BS BT BB bBC hwB i7 i9 i11
  go_wp2_with fail
  rw [← hwC]
  clear hwC hB11 hB7 hB9
  go_loop [13] (fun i => ∃ j : Nat, j ≤ n1 ∧ i = .int .i64 j) (fun i => n1 - (intOf i).toNat)
  case atStart => exact ⟨0, Nat.zero_le _, rfl⟩
  case round =>
    obtain ⟨j, hj, rfl⟩ := hrel
    by_cases hlt : j < n1
    · have g1 : (j : Int) < (n1 : Int) := by omega
      obtain ⟨bb, off, aa, k, cc, rfl, q1⟩ := CELL1.out wC (sub_below BC.out) j hlt
      by_cases hk : 200 < k
      · have g2 : (200 < k) = True := by simp [hk]
        go_wp2
        go_ret
        exact ⟨rfl, BC.out⟩
      · have g2 : (200 < k) = False := by simp [hk]
        go_wp2
        go_round
        case rel => exact ⟨j + 1, by omega, by go_num⟩
        case measure => simp [intOf]; omega
    · have g1 : ¬ (j : Int) < (n1 : Int) := by omega
      go_wp2_with fail
      clear hj hlt g1
      go_loop [14] (fun i => ∃ j : Nat, j ≤ n2 ∧ i = .int .i64 j) (fun i => n2 - (intOf i).toNat)
      case atStart => exact ⟨0, Nat.zero_le _, rfl⟩
      case round =>
        obtain ⟨j, hj, rfl⟩ := hrel
        by_cases hlt : j < n2
        · have g1 : (j : Int) < (n2 : Int) := by omega
          obtain ⟨bb, off, aa, k, cc, rfl, q1⟩ := CELL2.out wC (sub_below BC.out) j hlt
          by_cases hk : 200 < k
          · have g2 : (200 < k) = True := by simp [hk]
            go_wp2
            go_ret
            exact ⟨rfl, BC.out⟩
          · have g2 : (200 < k) = False := by simp [hk]
            go_wp2
            go_round
            case rel => exact ⟨j + 1, by omega, by go_num⟩
            case measure => simp [intOf]; omega
        · have g1 : ¬ (j : Int) < (n2 : Int) := by omega
          have AL : Hid _ := alive_any wC
          rcases CASE3.out with h31 | ⟨h0, hpu, hsz⟩
          · subst h31
            go_wp2_with fail
            refine Calls.mono AL.out ?_
            rintro e wD ⟨rfl, hbD⟩
            have BD : Hid (Below w.heap.size w wD) := BC.out.trans (hbD.mono BC.out.size)
            clear AL hbD
            go_wp2
            go_ret
            exact ⟨rfl, BD.out⟩
          · subst h0
            have PU : Hid (ul.Perm ((S.widen sl tl).map (S.behind tl)) ∧ ∀ p ∈ S.widen sl tl, (S.subs tl p.2).length ≤ 200) := ⟨hpu, hsz⟩
            clear CASE3 hpu hsz hj hlt
            go_wp2_with fail
            refine Calls.mono AL.out ?_
            rintro e wD ⟨rfl, hbD⟩
            obtain ⟨wE, hwE⟩ : ∃ wE, wE = wD.alloc (.cells #[.slice none 0 0, .slice none 0 0, .slice none 0 0, .int .i64 0, .int .i64 0] 25) := ⟨_, rfl⟩
            have bDE : Below wD.heap.size wD wE := by rw [hwE]; exact below_alloc _ _
            have bCE : Below wC.heap.size wC wE := hbD.trans (bDE.mono hbD.size)
            have SE : Hid (Sub wC wE) := sub_below bCE
            have BE : Hid (Below w.heap.size w wE) := BC.out.trans (bCE.mono BC.out.size)
            have SW : Hid (Sub w wE) := sub_below BE.out
            have KA : Hid (∀ w', Sub wE w' → w'.cell? ⟨B7, 0, none⟩ = some (.slice aS ks cs) ∧ w'.cell? ⟨B9, 0, none⟩ = some (.slice aT kt ct) ∧ w'.cell? ⟨B11, 0, none⟩ = some (.slice au ku cu) ∧ w'.cell? ⟨wD.heap.size, 0, none⟩ = some (.slice none 0 0) ∧ w'.cell? ⟨wD.heap.size, 1, none⟩ = some (.slice none 0 0) ∧ w'.cell? ⟨wD.heap.size, 2, none⟩ = some (.slice none 0 0) ∧ w'.cell? ⟨wD.heap.size, 3, none⟩ = some (.int .i64 0) ∧ w'.cell? ⟨wD.heap.size, 4, none⟩ = some (.int .i64 0)) := fun w' h => by
              have e0 : ∀ (i : Nat) (u : Value), (#[Value.slice none 0 0, .slice none 0 0, .slice none 0 0, .int .i64 0, .int .i64 0])[i]? = some u → w'.cell? ⟨wD.heap.size, i, none⟩ = some u := fun i u hi => h _ _ (by rw [hwE, World.cell?_alloc_new wD _ _ i]; exact hi)
              have s := SE.out.trans h
              exact ⟨s _ _ I7.out.1, s _ _ I7.out.2.1, s _ _ I7.out.2.2, e0 0 _ rfl, e0 1 _ rfl, e0 2 _ rfl, e0 3 _ rfl, e0 4 _ rfl⟩
            have wf0 : wfI 0 := rfl
            have WF0 : Hid (wfI 0) := wf0
            have C1 : Hid _ := carry_any wE aL nL cL l aS ks cs sl (.slice none 0 0) (.slice none 0 0) (.slice none 0 0) 0 0 U (by omega) (fun q hq => by have := GG.out.g1 q (P1.out.1.mem_iff.1 hq); omega) (fun q hq => (GG.out.w1 q (P1.out.1.mem_iff.1 hq)).2) wf0 HL.out (by omega) (GG.out.wl) (CS.out.sub SE.out) (PL.out.sub SW.out) (GG.out.in1 P1.out.1) GG.out.len
            unfold fnV carried at C1
            obtain ⟨j7, j9, j11, j0, j1, j2, j3, j4⟩ := KA.out wE (Sub.refl _)
            rw [hwE] at j7 j9 j11 j0 j1 j2 j3 j4
            generalize hB15 : wD.heap.size = B15 at *
            clear AL hbD bDE bCE wf0
            go_wp2_with fail
            rw [← hwE]
            clear hwE hB15 j7 j9 j11 j0 j1 j2 j3 j4
            refine Calls.mono C1.out ?_
            rintro e wF ⟨hbF, ⟨q, hq, rfl⟩ | ⟨hn1, v, mm1, mn, rfl, hN, hT, hlen, hr⟩⟩
            · have BF : Hid (Below w.heap.size w (wF.alloc (.cells #[.int .i64 q.1, .int .i64 q.2] 33))) := (BE.out.trans (hbF.mono BE.out.size)).alloc (Nat.le_trans BE.out.size hbF.size) _
              unfold encP
              clear C1 hbF hq
              go_wp2
              go_ret
              exact ⟨rfl, BF.out⟩
            have SF : Hid (Sub wE wF) := sub_below hbF
            have BF : Hid (Below w.heap.size w wF) := BE.out.trans (hbF.mono BE.out.size)
            have HN : Hid (IsNorm l mn) := hN
            have HT1 : Hid (Told (askS sl (isV 0 0) mn) mm1) := hT
            have F1 : Hid (l.find? (badM sl (isV 0 0)) = none) := hn1
            obtain ⟨q1, hq1⟩ : ∃ q, mm1.length = q := ⟨_, rfl⟩
            have Q1 : Hid (mm1.length = q1) := hq1
            rw [hq1] at hr hlen
            obtain ⟨x1, y1, rfl, _⟩ := own_shape hr
            obtain ⟨wG, hwG⟩ : ∃ wG, wG = wF.alloc (.cells #[.int .i64 0, .int .i64 0] 33) := ⟨_, rfl⟩
            have sFG : Below wF.heap.size wF wG := by rw [hwG]; exact below_alloc _ _
            have SG : Hid (Sub wE wG) := SF.out.trans (sub_below sFG)
            have BG : Hid (Below w.heap.size w wG) := BF.out.trans (sFG.mono BF.out.size)
            have PM : Hid (PairsAt wG x1 mm1) := (own_pairs hr).under sFG
            have wf0 : wfI 0 := WF0.out
            have C2 : Hid _ := carry_any wG x1 q1 y1 mm1 aT kt ct tl (.slice none 0 0) (.slice none 0 0) (.slice none 0 0) 0 0 U (by omega) (fun q hq => by have := GG.out.g2 q (P2.out.1.mem_iff.1 hq); omega) (fun q hq => (GG.out.w2 q (P2.out.1.mem_iff.1 hq)).2) wf0 Q1.out (by omega) (HT1.out.wf) (CT.out.sub (SE.out.trans SG.out)) (PM.out) (GG.out.in2 P1.out.1 P2.out.1 HN.out HT1.out) GG.out.len
            unfold fnV carried at C2
            obtain ⟨j7, j9, j11, j0, j1, j2, j3, j4⟩ := KA.out wG SG.out
            rw [hwG] at j7 j9 j11 j0 j1 j2 j3 j4
            unfold encP
            clear C1 hbF hN hT hn1 hq1 hlen hr sFG wf0
            go_wp2_with fail
            rw [← hwG]
            clear hwG j7 j9 j11 j0 j1 j2 j3 j4
            refine Calls.mono C2.out ?_
            rintro e wH ⟨hbH, ⟨q, hq, rfl⟩ | ⟨hn2, v, mm2, mn2, rfl, hN2, hT2, hlen2, hr2⟩⟩
            · have BH : Hid (Below w.heap.size w (wH.alloc (.cells #[.int .i64 q.1, .int .i64 q.2] 33))) := (BG.out.trans (hbH.mono BG.out.size)).alloc (Nat.le_trans BG.out.size hbH.size) _
              unfold encP
              clear C2 hbH hq
              go_wp2
              go_ret
              exact ⟨rfl, BH.out⟩
            have BH : Hid (Below w.heap.size w wH) := BG.out.trans (hbH.mono BG.out.size)
            have HN2' : Hid (IsNorm mm1 mn2) := hN2
            have HT2' : Hid (Told (askS tl (isV 0 0) mn2) mm2) := hT2
            have F2 : Hid (mm1.find? (badM tl (isV 0 0)) = none) := hn2
            obtain ⟨q2, hq2⟩ : ∃ q, mm2.length = q := ⟨_, rfl⟩
            have Q2 : Hid (mm2.length = q2) := hq2
            rw [hq2] at hr2 hlen2
            obtain ⟨x2, y2, rfl, _⟩ := own_shape hr2
            obtain ⟨wI, hwI⟩ : ∃ wI, wI = wH.alloc (.cells #[.int .i64 0, .int .i64 0] 33) := ⟨_, rfl⟩
            have sHI : Below wH.heap.size wH wI := by rw [hwI]; exact below_alloc _ _
            have SI : Hid (Sub wE wI) := (SG.out.trans (sub_below hbH)).trans (sub_below sHI)
            have BI : Hid (Below w.heap.size w wI) := BH.out.trans (sHI.mono BH.out.size)
            have PM2 : Hid (PairsAt wI x2 mm2) := (own_pairs hr2).under sHI
            have wf0 : wfI 0 := WF0.out
            have hku2 : ku ≤ 2097152 := by have h := len3 PU.out.1; rw [KUl.out, KSl.out, KTl.out] at h; omega
            have C3 : Hid _ := carry_any wI aL nL cL l au ku cu ul (.slice none 0 0) (.slice none 0 0) (.slice none 0 0) 0 0 U (by omega) (big3 PU.out.1 PU.out.2) (GG.out.wf3 P1.out.1 P2.out.1 PU.out.1) wf0 HL.out (by omega) (GG.out.wl) (CU.out.sub (SE.out.trans SI.out)) (PL.out.sub (SW.out.trans SI.out)) (GG.out.in3 P1.out.1 P2.out.1 P1.out.2 P2.out.2 PU.out.1) GG.out.len
            unfold fnV carried at C3
            obtain ⟨j7, j9, j11, j0, j1, j2, j3, j4⟩ := KA.out wI SI.out
            rw [hwI] at j7 j9 j11 j0 j1 j2 j3 j4
            unfold encP
            clear C2 hbH hN2 hT2 hn2 hq2 hr2 sHI wf0
            go_wp2_with fail
            rw [← hwI]
            clear hwI j7 j9 j11 j0 j1 j2 j3 j4
            refine Calls.mono C3.out ?_
            have HB : Hid (Both sl tl ul) := GG.out.both P1.out.1 P2.out.1 P1.out.2 P2.out.2 PU.out.1
            rintro e wJ ⟨hbJ, ⟨q, hq, rfl⟩ | ⟨hn3, v, mm3, mn3, rfl, hN3, hT3, hlen3, hr3⟩⟩
            · exfalso
              rw [then_ok HB.out GG.out.wl HN.out HT1.out F1.out F2.out] at hq
              cases hq
            have e3 : mn = mn3 := norm_one HN.out hN3
            subst e3
            have e4 : mm2 = mm3 := (then_same HB.out GG.out.wl HN.out HT1.out F1.out HN2'.out HT2'.out hT3).symm
            subst e4
            rw [Q2.out] at hr3
            obtain ⟨x3, y3, rfl, _⟩ := own_shape hr3
            obtain ⟨wK, hwK⟩ : ∃ wK, wK = wJ.alloc (.cells #[.int .i64 0, .int .i64 0] 33) := ⟨_, rfl⟩
            have sJK : Below wJ.heap.size wJ wK := by rw [hwK]; exact below_alloc _ _
            have BJ : Hid (Below w.heap.size w wJ) := BI.out.trans (hbJ.mono BI.out.size)
            have BK : Hid (Below w.heap.size w wK) := BJ.out.trans (sJK.mono BJ.out.size)
            have CS3 : Hid _ := same_eq wK x3 x2 y3 y2 mm2 q2 Q2.out (by omega) ((own_pairs hr3).under sJK) (PM2.out.under (hbJ.trans (sJK.mono hbJ.size)))
            have z0 : wK.cell? ⟨wJ.heap.size, 0, none⟩ = some (.int .i64 0) := by rw [hwK]; exact World.cell?_alloc_new wJ _ _ 0
            have z1 : wK.cell? ⟨wJ.heap.size, 1, none⟩ = some (.int .i64 0) := by rw [hwK]; exact World.cell?_alloc_new wJ _ _ 1
            rw [hwK] at z0 z1
            unfold encP
            clear C3 hbJ hN3 hT3 hn3 hr3 sJK
            go_wp2_with fail
            rw [← hwK]
            clear hwK z0 z1
            refine Calls.mono CS3.out ?_
            rintro e wM ⟨rfl, dq, hdq⟩
            have BM : Hid (Below w.heap.size w wM) := by rw [hdq]; exact BK.out.trans ((below_drewN _ _).mono BK.out.size)
            clear CS3 hdq
            go_wp2
            go_ret
            exact ⟨rfl, BM.out⟩
end Go.Proofs.YtjaccgkeldabfaaGreat
