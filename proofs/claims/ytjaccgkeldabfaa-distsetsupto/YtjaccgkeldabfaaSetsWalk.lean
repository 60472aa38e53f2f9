/- DistSets: the walk. -/
import Derived.Test.YtjaccgkeldabfaaAlive
import Derived.Test.YtjaccgkeldabfaaOrdered
import Derived.Test.YtjaccgkeldabfaaSetsPure
namespace Go.Proofs.Ytjaccgkeldabfaa
open Go.RowKit

theorem below_of_drew {a : Nat} {u w' : World} (h : Below u.drew.heap.size u.drew w') (ha : a ≤ u.heap.size) : Below a u w' := Below.mono ⟨h.os, h.tape, h.output, h.size, h.block⟩ ha
set_option maxRecDepth 100000 in
set_option maxHeartbeats 64000000 in
theorem sets_walk (w : World) (aA aB aV : Option Addr) (cA cB cV nA nB nV : Nat) (lA lB : List Pr) (vl : List Int) (p0 p1 : Int) (hA : lA.length = nA) (hB : lB.length = nB) (hV : vl.length = nV) (hnA : nA ≤ 1048576) (hnB : nB ≤ 1048576) (hnV : nV ≤ 1048576) (hcV : nV ≤ cV)
    (wA : ∀ p ∈ lA, wfP p) (wB : ∀ p ∈ lB, wfP p) (wV : ∀ x ∈ vl, wfI x) (iA : PairsAt w aA lA) (iB : PairsAt w aB lB) (iV : IntsAt w aV vl) :
    Calls Try.prog 3 #[.agg #[.slice aA nA cA, .slice aB nB cB, .int .i64 p0, .int .i64 p1, .slice aV nV cV]] w fun e w' => e = .returned (.bool true) ∧ Below w.heap.size w w' := by
  have LA : Hid (lA.length = nA) := hA
  have LB : Hid (lB.length = nB) := hB
  have LV : Hid (vl.length = nV) := hV
  have WA : Hid (∀ p ∈ lA, wfP p) := wA
  have WB : Hid (∀ p ∈ lB, wfP p) := wB
  have WV : Hid (∀ x ∈ vl, wfI x) := wV
  have IA : Hid (PairsAt w aA lA) := iA
  have IB : Hid (PairsAt w aB lB) := iB
  have IV : Hid (IntsAt w aV vl) := iV
  obtain ⟨w1, hw1⟩ : ∃ w1, w1 = w.alloc (.cells #[.slice aA nA cA, .slice aB nB cB, .int .i64 p0, .int .i64 p1, .slice aV nV cV] 27) := ⟨_, rfl⟩
  have B1 : Hid (Below w.heap.size w w1) := by rw [hw1]; exact below_alloc _ _
  have HS : Hid (w.heap.size < w1.heap.size) := by rw [hw1]; show _ < _; simp
  have KS : Hid (∀ w', Below w1.heap.size w1 w' → w'.cell? ⟨w.heap.size, 0, none⟩ = some (.slice aA nA cA) ∧ w'.cell? ⟨w.heap.size, 1, none⟩ = some (.slice aB nB cB) ∧ w'.cell? ⟨w.heap.size, 2, none⟩ = some (.int .i64 p0) ∧ w'.cell? ⟨w.heap.size, 3, none⟩ = some (.int .i64 p1) ∧ w'.cell? ⟨w.heap.size, 4, none⟩ = some (.slice aV nV cV)) := fun w' h => by
    refine ⟨?_, ?_, ?_, ?_, ?_⟩ <;> (rw [World.cell?_of_block (a := ⟨w.heap.size, _, none⟩) (h.block w.heap.size HS.out), hw1]; exact World.cell?_alloc_new w _ _ _)
  have PA : Hid (∀ w', Below w1.heap.size w1 w' → PairsAt w' aA lA) := fun w' h => IA.out.under (B1.out.trans (h.mono B1.out.size))
  have PB : Hid (∀ w', Below w1.heap.size w1 w' → PairsAt w' aB lB) := fun w' h => IB.out.under (B1.out.trans (h.mono B1.out.size))
  have PV : Hid (∀ w', Below w1.heap.size w1 w' → IntsAt w' aV vl) := fun w' h => IV.out.under (B1.out.trans (h.mono B1.out.size))
  have BB1 : Hid (Below w1.heap.size w1 w1) := Below.refl _ _
  clear hA hB hV wA wB wV iA iB iV IA IB IV
  go_enter Try.func3, Try.ntmps3
  obtain ⟨k0, k1, k2, k3, k4⟩ := KS.out w1 BB1.out
  have CN : Hid _ := norm_any w1 aA cA lA nA LA.out hnA WA.out (PA.out _ BB1.out)
  go_wp2_with fail
  rw [← hw1]
  clear hw1
  refine Calls.mono CN.out ?_
  rintro e w2 ⟨v, mn, rfl, hN, hr, hb⟩
  have Nn : Hid (IsNorm lA mn) := hN
  obtain ⟨qn, hq⟩ : ∃ q, mn.length = q := ⟨_, rfl⟩
  have Qn : Hid (mn.length = qn) := hq
  rw [hq] at hr
  obtain ⟨an, cn, rfl, _⟩ := own_shape hr
  have hqn : qn ≤ 1048576 := by rw [← hq]; exact Nat.le_trans (norm_len hN) (by first | (rw [List.length_append, LA.out, LB.out]; omega) | (rw [LA.out]; omega) | (have := onlyP_len lA vl; rw [LA.out] at this; omega))
  have Pn : Hid (∀ w', Below w2.heap.size w2 w' → PairsAt w' an mn) := fun w' h => (own_pairs hr).under h
  have BB2 : Hid (Below w1.heap.size w1 w2) := BB1.out.trans (hb.mono BB1.out.size)
  clear CN hN hr hb hq
  clear k0 k1 k2 k3 k4
  obtain ⟨k0, k1, k2, k3, k4⟩ := KS.out w2 BB2.out
  have CN : Hid _ := union_any w2 aA aB cA cB lA lB nA nB LA.out LB.out hnA hnB WA.out WB.out (PA.out _ BB2.out) (PB.out _ BB2.out)
  go_wp2_with fail
  refine Calls.mono CN.out ?_
  rintro e w3 ⟨v, mu, rfl, hN, hr, hb⟩
  have Nu : Hid (IsNorm (lA ++ lB) mu) := hN
  obtain ⟨qu, hq⟩ : ∃ q, mu.length = q := ⟨_, rfl⟩
  have Qu : Hid (mu.length = qu) := hq
  rw [hq] at hr
  obtain ⟨au, cu, rfl, _⟩ := own_shape hr
  have hqu : qu ≤ 2097152 := by rw [← hq]; exact Nat.le_trans (norm_len hN) (by first | (rw [List.length_append, LA.out, LB.out]; omega) | (rw [LA.out]; omega) | (have := onlyP_len lA vl; rw [LA.out] at this; omega))
  have Pu : Hid (∀ w', Below w3.heap.size w3 w' → PairsAt w' au mu) := fun w' h => (own_pairs hr).under h
  have BB3 : Hid (Below w1.heap.size w1 w3) := BB2.out.trans (hb.mono BB2.out.size)
  replace Pn : Hid (∀ w', Below w3.heap.size w3 w' → PairsAt w' an mn) := fun w' h => Pn.out w' (hb.trans (h.mono hb.size))
  clear CN hN hr hb hq
  clear k0 k1 k2 k3 k4
  obtain ⟨k0, k1, k2, k3, k4⟩ := KS.out w3 BB3.out
  have CN : Hid _ := only_any w3 aA aV cA cV lA vl nA nV LA.out LV.out hnA (by omega) WA.out (PA.out _ BB3.out) (PV.out _ BB3.out)
  go_wp2_with fail
  refine Calls.mono CN.out ?_
  rintro e w4 ⟨v, mo, rfl, hN, hr, hb⟩
  have No : Hid (IsNorm (onlyP lA vl) mo) := hN
  obtain ⟨qo, hq⟩ : ∃ q, mo.length = q := ⟨_, rfl⟩
  have Qo : Hid (mo.length = qo) := hq
  rw [hq] at hr
  obtain ⟨ao, co, rfl, _⟩ := own_shape hr
  have hqo : qo ≤ 1048576 := by rw [← hq]; exact Nat.le_trans (norm_len hN) (by first | (rw [List.length_append, LA.out, LB.out]; omega) | (rw [LA.out]; omega) | (have := onlyP_len lA vl; rw [LA.out] at this; omega))
  have Po : Hid (∀ w', Below w4.heap.size w4 w' → PairsAt w' ao mo) := fun w' h => (own_pairs hr).under h
  have BB4 : Hid (Below w1.heap.size w1 w4) := BB3.out.trans (hb.mono BB3.out.size)
  replace Pn : Hid (∀ w', Below w4.heap.size w4 w' → PairsAt w' an mn) := fun w' h => Pn.out w' (hb.trans (h.mono hb.size))
  replace Pu : Hid (∀ w', Below w4.heap.size w4 w' → PairsAt w' au mu) := fun w' h => Pu.out w' (hb.trans (h.mono hb.size))
  clear CN hN hr hb hq
  clear k0 k1 k2 k3 k4
  replace KS : Hid (∀ w', Below w4.heap.size w4 w' → w'.cell? ⟨w.heap.size, 0, none⟩ = some (.slice aA nA cA) ∧ w'.cell? ⟨w.heap.size, 1, none⟩ = some (.slice aB nB cB) ∧ w'.cell? ⟨w.heap.size, 2, none⟩ = some (.int .i64 p0) ∧ w'.cell? ⟨w.heap.size, 3, none⟩ = some (.int .i64 p1) ∧ w'.cell? ⟨w.heap.size, 4, none⟩ = some (.slice aV nV cV)) := fun w' h => KS.out w' (BB4.out.trans (h.mono BB4.out.size))
  replace PA : Hid (∀ w', Below w4.heap.size w4 w' → PairsAt w' aA lA) := fun w' h => PA.out w' (BB4.out.trans (h.mono BB4.out.size))
  replace PB : Hid (∀ w', Below w4.heap.size w4 w' → PairsAt w' aB lB) := fun w' h => PB.out w' (BB4.out.trans (h.mono BB4.out.size))
  replace PV : Hid (∀ w', Below w4.heap.size w4 w' → IntsAt w' aV vl) := fun w' h => PV.out w' (BB4.out.trans (h.mono BB4.out.size))
  replace B1 : Hid (Below w.heap.size w w4) := B1.out.trans (BB4.out.mono B1.out.size)
  replace BB4 : Hid (Below w4.heap.size w4 w4) := Below.refl _ _
  clear BB1 BB2 BB3 HS
  have CN : Hid _ := alive_any w4
  go_wp2_with fail
  refine Calls.mono CN.out ?_
  rintro e w5 ⟨rfl, hb⟩
  have BB5 : Hid (Below w4.heap.size w4 w5) := BB4.out.trans (hb.mono BB4.out.size)
  clear CN hb
  have CN : Hid _ := ordered_any w5 an cn qn mn Qn.out (by omega) (Pn.out _ BB5.out) Nn.out.up (norm_lt Nn.out)
  go_wp2_with fail
  refine Calls.mono CN.out ?_
  rintro e w6 ⟨rfl, dq, hdq⟩
  have BB6 : Hid (Below w4.heap.size w4 w6) := by rw [hdq]; exact BB5.out.trans ((below_drewN _ _).mono BB5.out.size)
  clear CN hdq
  have CN : Hid _ := ordered_any w6 au cu qu mu Qu.out (by omega) (Pu.out _ BB6.out) Nu.out.up (norm_lt Nu.out)
  go_wp2_with fail
  refine Calls.mono CN.out ?_
  rintro e w7 ⟨rfl, dq, hdq⟩
  have BB7 : Hid (Below w4.heap.size w4 w7) := by rw [hdq]; exact BB6.out.trans ((below_drewN _ _).mono BB6.out.size)
  clear CN hdq
  have CN : Hid _ := ordered_any w7 ao co qo mo Qo.out (by omega) (Po.out _ BB7.out) No.out.up (norm_lt No.out)
  go_wp2_with fail
  refine Calls.mono CN.out ?_
  rintro e w8 ⟨rfl, dq, hdq⟩
  have BB8 : Hid (Below w4.heap.size w4 w8) := by rw [hdq]; exact BB7.out.trans ((below_drewN _ _).mono BB7.out.size)
  clear CN hdq
  have CN : Hid _ := norm_any w8 an cn mn qn Qn.out hqn (norm_wf Nn.out WA.out) (Pn.out _ BB8.out)
  go_wp2_with fail
  refine Calls.mono CN.out ?_
  rintro e w9 ⟨v, mm, rfl, hN, hr, hb⟩
  have e1 : mn = mm := (norm_one hN (norm_norm Nn.out)).symm
  subst e1
  rw [Qn.out] at hr
  obtain ⟨az, cz, rfl, _⟩ := own_shape hr
  have BB9 : Hid (Below w4.heap.size w4 w9) := BB8.out.trans (hb.mono BB8.out.size)
  have CN2 : Hid _ := same_eq w9 az an cz cn mn qn Qn.out (by omega) (own_pairs hr) (Pn.out _ BB9.out)
  clear CN hN hr hb
  go_wp2_with fail
  refine Calls.mono CN2.out ?_
  rintro e w10 ⟨rfl, dq, hdq⟩
  have BB10 : Hid (Below w4.heap.size w4 w10) := by rw [hdq]; exact BB9.out.trans ((below_drewN _ _).mono BB9.out.size)
  clear CN2 hdq
  obtain ⟨k0, k1, k2, k3, k4⟩ := KS.out w10 BB10.out
  have CN : Hid _ := union_any w10 aB aA cB cA lB lA nB nA LB.out LA.out hnB hnA WB.out WA.out (PB.out _ BB10.out) (PA.out _ BB10.out)
  go_wp2_with fail
  refine Calls.mono CN.out ?_
  rintro e w11 ⟨v, mm, rfl, hN, hr, hb⟩
  have e1 : mu = mm := (norm_one hN (norm_comm Nu.out)).symm
  subst e1
  rw [Qu.out] at hr
  obtain ⟨az, cz, rfl, _⟩ := own_shape hr
  have BB11 : Hid (Below w4.heap.size w4 w11) := BB10.out.trans (hb.mono BB10.out.size)
  have CN2 : Hid _ := same_eq w11 az au cz cu mu qu Qu.out (by omega) (own_pairs hr) (Pu.out _ BB11.out)
  clear CN hN hr hb
  clear k0 k1 k2 k3 k4
  go_wp2_with fail
  refine Calls.mono CN2.out ?_
  rintro e w12 ⟨rfl, dq, hdq⟩
  have BB12 : Hid (Below w4.heap.size w4 w12) := by rw [hdq]; exact BB11.out.trans ((below_drewN _ _).mono BB11.out.size)
  clear CN2 hdq
  obtain ⟨k0, k1, k2, k3, k4⟩ := KS.out w12 BB12.out
  have CN : Hid _ := union_any w12 aA aA cA cA lA lA nA nA LA.out LA.out hnA hnA WA.out WA.out (PA.out _ BB12.out) (PA.out _ BB12.out)
  go_wp2_with fail
  refine Calls.mono CN.out ?_
  rintro e w13 ⟨v, mm, rfl, hN, hr, hb⟩
  have e1 : mn = mm := (norm_one hN (norm_self Nn.out)).symm
  subst e1
  rw [Qn.out] at hr
  obtain ⟨az, cz, rfl, _⟩ := own_shape hr
  have BB13 : Hid (Below w4.heap.size w4 w13) := BB12.out.trans (hb.mono BB12.out.size)
  have CN2 : Hid _ := same_eq w13 az an cz cn mn qn Qn.out (by omega) (own_pairs hr) (Pn.out _ BB13.out)
  clear CN hN hr hb
  clear k0 k1 k2 k3 k4
  go_wp2_with fail
  refine Calls.mono CN2.out ?_
  rintro e w14 ⟨rfl, dq, hdq⟩
  have BB14 : Hid (Below w4.heap.size w4 w14) := by rw [hdq]; exact BB13.out.trans ((below_drewN _ _).mono BB13.out.size)
  clear CN2 hdq
  clear BB5 BB6 BB7 BB8 BB9 BB10 BB11 BB12 BB13
  replace KS : Hid (∀ w', Below w14.heap.size w14 w' → w'.cell? ⟨w.heap.size, 0, none⟩ = some (.slice aA nA cA) ∧ w'.cell? ⟨w.heap.size, 1, none⟩ = some (.slice aB nB cB) ∧ w'.cell? ⟨w.heap.size, 2, none⟩ = some (.int .i64 p0) ∧ w'.cell? ⟨w.heap.size, 3, none⟩ = some (.int .i64 p1) ∧ w'.cell? ⟨w.heap.size, 4, none⟩ = some (.slice aV nV cV)) := fun w' h => KS.out w' (BB14.out.trans (h.mono BB14.out.size))
  replace PA : Hid (∀ w', Below w14.heap.size w14 w' → PairsAt w' aA lA) := fun w' h => PA.out w' (BB14.out.trans (h.mono BB14.out.size))
  replace PB : Hid (∀ w', Below w14.heap.size w14 w' → PairsAt w' aB lB) := fun w' h => PB.out w' (BB14.out.trans (h.mono BB14.out.size))
  replace PV : Hid (∀ w', Below w14.heap.size w14 w' → IntsAt w' aV vl) := fun w' h => PV.out w' (BB14.out.trans (h.mono BB14.out.size))
  replace Pn : Hid (∀ w', Below w14.heap.size w14 w' → PairsAt w' an mn) := fun w' h => Pn.out w' (BB14.out.trans (h.mono BB14.out.size))
  replace Pu : Hid (∀ w', Below w14.heap.size w14 w' → PairsAt w' au mu) := fun w' h => Pu.out w' (BB14.out.trans (h.mono BB14.out.size))
  replace Po : Hid (∀ w', Below w14.heap.size w14 w' → PairsAt w' ao mo) := fun w' h => Po.out w' (BB14.out.trans (h.mono BB14.out.size))
  replace B1 : Hid (Below w.heap.size w w14) := B1.out.trans (BB14.out.mono B1.out.size)
  replace BB14 : Hid (Below w14.heap.size w14 w14) := Below.refl _ _
  clear BB4
  go_wp2_with fail
  have HBz : Hid (w.heap.size ≤ w14.heap.size) := B1.out.size
  generalize hB : w.heap.size = B at *
  have HBq : Hid (w.heap.size = B) := hB
  clear hB
  go_loopw [6] (fun i wx => ∃ j : Nat, j ≤ nA ∧ i = .int .i64 j ∧ Hid (Below w14.heap.size w14 wx)) (fun i _ => nA - (intOf i).toNat)
  case atStart => exact ⟨0, Nat.zero_le _, rfl, BB14.out⟩
  case round =>
    obtain ⟨j, hj, rfl, BX⟩ := hrel
    obtain ⟨k0, k1, k2, k3, k4⟩ := KS.out wr BX.out
    by_cases hlt : j < nA
    · have n1 : (j : Int) < (nA : Int) := by omega
      obtain ⟨⟨x, y⟩, hx⟩ : ∃ x, lA[j]? = some x := ⟨lA[j]'(by rw [LA.out]; exact hlt), List.getElem?_eq_getElem _⟩
      obtain ⟨b1, o1, rfl, c1, d1⟩ := PA.out wr BX.out j _ hx
      have HM : Hid ((x, y) ∈ lA) := List.mem_of_getElem? hx
      clear hx
      go_wp2_with fail
      obtain ⟨w9, hw9⟩ : ∃ w9, w9 = wr.alloc (.cells #[.int .i64 x, .int .i64 y] 24) := ⟨_, rfl⟩
      have Y9 : Below wr.heap.size wr w9 := by rw [hw9]; exact below_alloc _ _
      have Y9s : wr.heap.size < w9.heap.size := by rw [hw9]; simp
      have Z0 : w9.cell? ⟨wr.heap.size, 0, none⟩ = some (.int .i64 x) := by rw [hw9]; exact World.cell?_alloc_new wr _ _ 0
      have Z1 : w9.cell? ⟨wr.heap.size, 1, none⟩ = some (.int .i64 y) := by rw [hw9]; exact World.cell?_alloc_new wr _ _ 1
      have HX : Hid (∀ w', Below w9.drew.heap.size w9.drew w' → Below w14.heap.size w14 w') := fun w' h => BX.out.trans ((Y9.trans (below_of_drew h Y9.size)).mono BX.out.size)
      have SS : Hid (∀ w', Below w9.drew.heap.size w9.drew w' → w'.cell? ⟨B, 0, none⟩ = some (.slice (some ⟨b1, o1, none⟩) nA cA) ∧ w'.cell? ⟨B, 4, none⟩ = some (.slice aV nV cV) ∧ w'.cell? ⟨wr.heap.size, 0, none⟩ = some (.int .i64 x) ∧ w'.cell? ⟨wr.heap.size, 1, none⟩ = some (.int .i64 y)) := fun w' h => ⟨(KS.out w' (HX.out w' h)).1, (KS.out w' (HX.out w' h)).2.2.2.2, (h.cell (p := ⟨wr.heap.size, 0, none⟩) Y9s).trans Z0, (h.cell (p := ⟨wr.heap.size, 1, none⟩) Y9s).trans Z1⟩
      have B_W9 : Hid (Below w9.drew.heap.size w9.drew w9.drew) := Below.refl _ _
      rw [← hw9]
      have HA1 : Hid (hasP lA (x, y) = true) := has_mem HM.out rfl
      have HA2 : Hid (hasP lA (y, x) = true) := has_mem HM.out (turn_swap x y)
      generalize hBp : wr.heap.size = Bp at *
      clear hw9 Y9 Y9s Z0 Z1 k0 k1 k2 k3 k4 c1 d1 hBp
      by_cases hxy : x = y
      · subst hxy
        have SNn : Hid (standsL mn (x, x) = false) := by show _ = _; rw [stands_norm Nn.out HM.out]; simp
        have SNu : Hid (standsL mu (x, x) = false) := by show _ = _; rw [stands_norm Nu.out (List.mem_append_left _ HM.out)]; simp
        have SNo : Hid (standsL mo (x, x) = (hasI vl x && hasI vl x && false)) := by show _ = _; rw [stands_only No.out HM.out]; simp
        refine wp_region_held_drew (S := fun w' => w'.cell? ⟨B, 0, none⟩ = some (.slice (some ⟨b1, o1, none⟩) nA cA) ∧ w'.cell? ⟨B, 4, none⟩ = some (.slice aV nV cV) ∧ w'.cell? ⟨Bp, 0, none⟩ = some (.int .i64 x) ∧ w'.cell? ⟨Bp, 1, none⟩ = some (.int .i64 x)) (by kernel_rfl) ?_ (fun hHeld => ?_)
        · exact SS.out _ (Below.refl _ _)
        refine wpAnyH_take (i := 0) (oi := { dst := some 84, op := Op.move (Operand.tmp 3), type := 22, pos := "outright.go:49", after := #[], guard := none }) (v := ?_) rfl (by kernel_rfl) (by kernel_rfl) (by kernel_rfl) (fun _ _ _ h => h) (Or.inl ⟨by rfl, ?_⟩) hHeld ?_
        rotate_left
        · (intro w hSw; (try dsimp only at hSw); go_simp; try with_reducible rfl)
        try simp only [Act.put, List.setIfInBounds_toArray, List.set_cons_zero, List.set_cons_succ]
        refine wpAnyH_take (i := 1) (oi := { dst := some 85, op := Op.load 24 (Operand.tmp 7), type := 24, pos := "outright.go:49", after := #[], guard := none }) (v := ?_) rfl (by kernel_rfl) (by kernel_rfl) (by kernel_rfl) (fun _ _ _ h => h) (Or.inl ⟨by rfl, ?_⟩) hHeld ?_
        rotate_left
        · (intro w hSw; (try dsimp only at hSw); go_simp; try with_reducible rfl)
        try simp only [Act.put, List.setIfInBounds_toArray, List.set_cons_zero, List.set_cons_succ]
        refine wpAnyH_take (i := 3) (oi := { dst := some 87, op := Op.fieldAddr 24 (Operand.tmp 7) 0, type := 0, pos := "outright.go:49", after := #[], guard := none }) (v := ?_) rfl (by kernel_rfl) (by kernel_rfl) (by kernel_rfl) (fun _ _ _ h => h) (Or.inl ⟨by rfl, ?_⟩) hHeld ?_
        rotate_left
        · (intro w hSw; (try dsimp only at hSw); go_simp; try with_reducible rfl)
        try simp only [Act.put, List.setIfInBounds_toArray, List.set_cons_zero, List.set_cons_succ]
        refine wpAnyH_take (i := 4) (oi := { dst := some 88, op := Op.load 3 (Operand.tmp 87), type := 3, pos := "outright.go:49", after := #[{ on := 3, ground := Ground.data }], guard := none }) (v := ?_) rfl (by kernel_rfl) (by kernel_rfl) (by kernel_rfl) (fun _ _ _ h => h) (Or.inl ⟨by rfl, ?_⟩) hHeld ?_
        rotate_left
        · (intro w hSw; (try dsimp only at hSw); go_simp; try with_reducible rfl)
        try simp only [Act.put, List.setIfInBounds_toArray, List.set_cons_zero, List.set_cons_succ]
        refine wpAnyH_take (i := 5) (oi := { dst := some 89, op := Op.fieldAddr 24 (Operand.tmp 7) 1, type := 0, pos := "outright.go:49", after := #[], guard := none }) (v := ?_) rfl (by kernel_rfl) (by kernel_rfl) (by kernel_rfl) (fun _ _ _ h => h) (Or.inl ⟨by rfl, ?_⟩) hHeld ?_
        rotate_left
        · (intro w hSw; (try dsimp only at hSw); go_simp; try with_reducible rfl)
        try simp only [Act.put, List.setIfInBounds_toArray, List.set_cons_zero, List.set_cons_succ]
        refine wpAnyH_take (i := 6) (oi := { dst := some 90, op := Op.load 3 (Operand.tmp 89), type := 3, pos := "outright.go:49", after := #[{ on := 5, ground := Ground.data }], guard := none }) (v := ?_) rfl (by kernel_rfl) (by kernel_rfl) (by kernel_rfl) (fun _ _ _ h => h) (Or.inl ⟨by rfl, ?_⟩) hHeld ?_
        rotate_left
        · (intro w hSw; (try dsimp only at hSw); go_simp; try with_reducible rfl)
        try simp only [Act.put, List.setIfInBounds_toArray, List.set_cons_zero, List.set_cons_succ]
        refine wpAnyH_take (i := 7) (oi := { dst := some 91, op := Op.binOp BinOp.neq 3 (Operand.tmp 88) (Operand.tmp 90) 3, type := 4, pos := "outright.go:49", after := #[{ on := 4, ground := Ground.data }, { on := 6, ground := Ground.data }], guard := none }) (v := ?_) rfl (by kernel_rfl) (by kernel_rfl) (by kernel_rfl) (fun _ _ _ h => h) (Or.inl ⟨by rfl, ?_⟩) hHeld ?_
        rotate_left
        · (intro w hSw; (try dsimp only at hSw); go_simp; try with_reducible rfl)
        try simp only [Act.put, List.setIfInBounds_toArray, List.set_cons_zero, List.set_cons_succ]
        refine wpAnyH_ready (rs := [2]) (by kernel_rfl) (by simp) ?_
        refine AllReadyH.cons (o := { dst := some 86, op := Op.call { callee := Callee.value (Operand.func 11), args := #[Operand.tmp 84, Operand.tmp 85], argTypes := #[22, 24] }, type := 4, pos := "outright.go:49", after := #[{ on := 0, ground := Ground.data }, { on := 1, ground := Ground.data }], guard := none }) rfl (fun K hK => ?_) AllReadyH.nil
        have CN : Hid _ := stands_any w9.drew an cn qn mn (x, x) Qn.out (by omega) (Pn.out _ (HX.out _ B_W9.out))
        rw [SNn.out] at CN
        unfold encP at CN
        go_simp
        go_at_call 11
        refine Calls.mono CN.out ?_
        rintro e v1w ⟨rfl, hb⟩
        have B_v1w : Hid (Below w9.drew.heap.size w9.drew v1w) := B_W9.out.trans (hb.mono B_W9.out.size)
        clear CN hb
        try go_wp2_with fail
        refine hK.out _ _ ?_ (fun hHeld_2 => ?_)
        · exact SS.out _ B_v1w.out
        clear hK K
        try simp only [Act.put, List.setIfInBounds_toArray, List.set_cons_zero, List.set_cons_succ]
        refine wpAnyH_take (i := 8) (oi := { dst := some 92, op := Op.binOp BinOp.neq 4 (Operand.tmp 86) (Operand.tmp 91) 4, type := 4, pos := "outright.go:49", after := #[{ on := 2, ground := Ground.data }, { on := 7, ground := Ground.data }], guard := none }) (v := ?_) rfl (by kernel_rfl) (by kernel_rfl) (by kernel_rfl) (fun _ _ _ h => h) (Or.inl ⟨by rfl, ?_⟩) hHeld_2 ?_
        rotate_left
        · (intro w hSw; (try dsimp only at hSw); go_simp; try with_reducible rfl)
        try simp only [Act.put, List.setIfInBounds_toArray, List.set_cons_zero, List.set_cons_succ]
        refine wpAnyH_take (i := 9) (oi := { dst := some 93, op := Op.move (Operand.tmp 92), type := 4, pos := "outright.go:49", after := #[{ on := 8, ground := Ground.data }, { on := 2, ground := Ground.chain }], guard := none }) (v := ?_) rfl (by kernel_rfl) (by kernel_rfl) (by kernel_rfl) (fun _ _ _ h => h) (Or.inl ⟨by rfl, ?_⟩) hHeld_2 ?_
        rotate_left
        · (intro w hSw; (try dsimp only at hSw); go_simp; try with_reducible rfl)
        try simp only [Act.put, List.setIfInBounds_toArray, List.set_cons_zero, List.set_cons_succ]
        refine wpAnyH_take (i := 10) (oi := { dst := some 94, op := Op.move (Operand.tmp 4), type := 22, pos := "outright.go:49", after := #[{ on := 9, ground := Ground.guard }], guard := some (9, false) }) (v := ?_) rfl (by kernel_rfl) (by kernel_rfl) (by kernel_rfl) (fun _ _ _ h => h) (Or.inl ⟨by rfl, ?_⟩) hHeld_2 ?_
        rotate_left
        · (intro w hSw; (try dsimp only at hSw); go_simp; try with_reducible rfl)
        try simp only [Act.put, List.setIfInBounds_toArray, List.set_cons_zero, List.set_cons_succ]
        refine wpAnyH_take (i := 11) (oi := { dst := some 95, op := Op.load 24 (Operand.tmp 7), type := 24, pos := "outright.go:49", after := #[{ on := 9, ground := Ground.guard }], guard := some (9, false) }) (v := ?_) rfl (by kernel_rfl) (by kernel_rfl) (by kernel_rfl) (fun _ _ _ h => h) (Or.inl ⟨by rfl, ?_⟩) hHeld_2 ?_
        rotate_left
        · (intro w hSw; (try dsimp only at hSw); go_simp; try with_reducible rfl)
        try simp only [Act.put, List.setIfInBounds_toArray, List.set_cons_zero, List.set_cons_succ]
        refine wpAnyH_take (i := 13) (oi := { dst := some 97, op := Op.fieldAddr 24 (Operand.tmp 7) 0, type := 0, pos := "outright.go:49", after := #[{ on := 9, ground := Ground.guard }], guard := some (9, false) }) (v := ?_) rfl (by kernel_rfl) (by kernel_rfl) (by kernel_rfl) (fun _ _ _ h => h) (Or.inl ⟨by rfl, ?_⟩) hHeld_2 ?_
        rotate_left
        · (intro w hSw; (try dsimp only at hSw); go_simp; try with_reducible rfl)
        try simp only [Act.put, List.setIfInBounds_toArray, List.set_cons_zero, List.set_cons_succ]
        refine wpAnyH_take (i := 14) (oi := { dst := some 98, op := Op.load 3 (Operand.tmp 97), type := 3, pos := "outright.go:49", after := #[{ on := 13, ground := Ground.data }, { on := 9, ground := Ground.guard }], guard := some (9, false) }) (v := ?_) rfl (by kernel_rfl) (by kernel_rfl) (by kernel_rfl) (fun _ _ _ h => h) (Or.inl ⟨by rfl, ?_⟩) hHeld_2 ?_
        rotate_left
        · (intro w hSw; (try dsimp only at hSw); go_simp; try with_reducible rfl)
        try simp only [Act.put, List.setIfInBounds_toArray, List.set_cons_zero, List.set_cons_succ]
        refine wpAnyH_take (i := 15) (oi := { dst := some 99, op := Op.fieldAddr 24 (Operand.tmp 7) 1, type := 0, pos := "outright.go:49", after := #[{ on := 9, ground := Ground.guard }], guard := some (9, false) }) (v := ?_) rfl (by kernel_rfl) (by kernel_rfl) (by kernel_rfl) (fun _ _ _ h => h) (Or.inl ⟨by rfl, ?_⟩) hHeld_2 ?_
        rotate_left
        · (intro w hSw; (try dsimp only at hSw); go_simp; try with_reducible rfl)
        try simp only [Act.put, List.setIfInBounds_toArray, List.set_cons_zero, List.set_cons_succ]
        refine wpAnyH_take (i := 16) (oi := { dst := some 100, op := Op.load 3 (Operand.tmp 99), type := 3, pos := "outright.go:49", after := #[{ on := 15, ground := Ground.data }, { on := 9, ground := Ground.guard }], guard := some (9, false) }) (v := ?_) rfl (by kernel_rfl) (by kernel_rfl) (by kernel_rfl) (fun _ _ _ h => h) (Or.inl ⟨by rfl, ?_⟩) hHeld_2 ?_
        rotate_left
        · (intro w hSw; (try dsimp only at hSw); go_simp; try with_reducible rfl)
        try simp only [Act.put, List.setIfInBounds_toArray, List.set_cons_zero, List.set_cons_succ]
        refine wpAnyH_take (i := 17) (oi := { dst := some 101, op := Op.binOp BinOp.neq 3 (Operand.tmp 98) (Operand.tmp 100) 3, type := 4, pos := "outright.go:49", after := #[{ on := 14, ground := Ground.data }, { on := 16, ground := Ground.data }, { on := 9, ground := Ground.guard }], guard := some (9, false) }) (v := ?_) rfl (by kernel_rfl) (by kernel_rfl) (by kernel_rfl) (fun _ _ _ h => h) (Or.inl ⟨by rfl, ?_⟩) hHeld_2 ?_
        rotate_left
        · (intro w hSw; (try dsimp only at hSw); go_simp; try with_reducible rfl)
        try simp only [Act.put, List.setIfInBounds_toArray, List.set_cons_zero, List.set_cons_succ]
        refine wpAnyH_ready (rs := [12]) (by kernel_rfl) (by simp) ?_
        refine AllReadyH.cons (o := { dst := some 96, op := Op.call { callee := Callee.value (Operand.func 11), args := #[Operand.tmp 94, Operand.tmp 95], argTypes := #[22, 24] }, type := 4, pos := "outright.go:49", after := #[{ on := 10, ground := Ground.data }, { on := 11, ground := Ground.data }, { on := 9, ground := Ground.chain }, { on := 9, ground := Ground.guard }], guard := some (9, false) }) rfl (fun K hK => ?_) AllReadyH.nil
        have CN : Hid _ := stands_any v1w au cu qu mu (x, x) Qu.out (by omega) (Pu.out _ (HX.out _ B_v1w.out))
        rw [SNu.out] at CN
        unfold encP at CN
        go_simp
        go_at_call 11
        refine Calls.mono CN.out ?_
        rintro e v2w ⟨rfl, hb⟩
        have B_v2w : Hid (Below w9.drew.heap.size w9.drew v2w) := B_v1w.out.trans (hb.mono B_v1w.out.size)
        clear CN hb
        try go_wp2_with fail
        refine hK.out _ _ ?_ (fun hHeld_12 => ?_)
        · exact SS.out _ B_v2w.out
        clear hK K
        try simp only [Act.put, List.setIfInBounds_toArray, List.set_cons_zero, List.set_cons_succ]
        refine wpAnyH_take (i := 18) (oi := { dst := some 102, op := Op.binOp BinOp.neq 4 (Operand.tmp 96) (Operand.tmp 101) 4, type := 4, pos := "outright.go:49", after := #[{ on := 12, ground := Ground.data }, { on := 17, ground := Ground.data }, { on := 9, ground := Ground.guard }], guard := some (9, false) }) (v := ?_) rfl (by kernel_rfl) (by kernel_rfl) (by kernel_rfl) (fun _ _ _ h => h) (Or.inl ⟨by rfl, ?_⟩) hHeld_12 ?_
        rotate_left
        · (intro w hSw; (try dsimp only at hSw); go_simp; try with_reducible rfl)
        try simp only [Act.put, List.setIfInBounds_toArray, List.set_cons_zero, List.set_cons_succ]
        refine wpAnyH_take (i := 19) (oi := { dst := some 103, op := Op.pick (Operand.tmp 93) (Operand.const (Value.bool true)) (Operand.tmp 102), type := 4, pos := "outright.go:49", after := #[{ on := 9, ground := Ground.data }, { on := 18, ground := Ground.data }], guard := none }) (v := ?_) rfl (by kernel_rfl) (by kernel_rfl) (by kernel_rfl) (fun _ _ _ h => h) (Or.inl ⟨by rfl, ?_⟩) hHeld_12 ?_
        rotate_left
        · (intro w hSw; (try dsimp only at hSw); go_simp; try with_reducible rfl)
        try simp only [Act.put, List.setIfInBounds_toArray, List.set_cons_zero, List.set_cons_succ]
        refine wpAnyH_take (i := 20) (oi := { dst := some 104, op := Op.move (Operand.tmp 103), type := 4, pos := "outright.go:49", after := #[{ on := 19, ground := Ground.data }, { on := 12, ground := Ground.chain }], guard := none }) (v := ?_) rfl (by kernel_rfl) (by kernel_rfl) (by kernel_rfl) (fun _ _ _ h => h) (Or.inl ⟨by rfl, ?_⟩) hHeld_12 ?_
        rotate_left
        · (intro w hSw; (try dsimp only at hSw); go_simp; try with_reducible rfl)
        try simp only [Act.put, List.setIfInBounds_toArray, List.set_cons_zero, List.set_cons_succ]
        refine wpAnyH_take (i := 21) (oi := { dst := some 105, op := Op.fieldAddr 27 (Operand.tmp 1) 0, type := 0, pos := "outright.go:49", after := #[{ on := 20, ground := Ground.guard }], guard := some (20, false) }) (v := ?_) rfl (by kernel_rfl) (by kernel_rfl) (by kernel_rfl) (fun _ _ _ h => h) (Or.inl ⟨by rfl, ?_⟩) hHeld_12 ?_
        rotate_left
        · (intro w hSw; (try dsimp only at hSw); go_simp; try with_reducible rfl)
        try simp only [Act.put, List.setIfInBounds_toArray, List.set_cons_zero, List.set_cons_succ]
        refine wpAnyH_take (i := 22) (oi := { dst := some 106, op := Op.load 22 (Operand.tmp 105), type := 22, pos := "outright.go:49", after := #[{ on := 21, ground := Ground.data }, { on := 20, ground := Ground.guard }], guard := some (20, false) }) (v := ?_) rfl (by kernel_rfl) (by kernel_rfl) (by kernel_rfl) (fun _ _ _ h => h) (Or.inl ⟨by rfl, ?_⟩) hHeld_12 ?_
        rotate_left
        · (intro w hSw; (try dsimp only at hSw); go_simp; try with_reducible rfl)
        try simp only [Act.put, List.setIfInBounds_toArray, List.set_cons_zero, List.set_cons_succ]
        refine wpAnyH_take (i := 23) (oi := { dst := some 107, op := Op.load 24 (Operand.tmp 7), type := 24, pos := "outright.go:49", after := #[{ on := 20, ground := Ground.guard }], guard := some (20, false) }) (v := ?_) rfl (by kernel_rfl) (by kernel_rfl) (by kernel_rfl) (fun _ _ _ h => h) (Or.inl ⟨by rfl, ?_⟩) hHeld_12 ?_
        rotate_left
        · (intro w hSw; (try dsimp only at hSw); go_simp; try with_reducible rfl)
        try simp only [Act.put, List.setIfInBounds_toArray, List.set_cons_zero, List.set_cons_succ]
        refine wpAnyH_ready (rs := [24]) (by kernel_rfl) (by simp) ?_
        refine AllReadyH.cons (o := { dst := some 108, op := Op.call { callee := Callee.value (Operand.func 12), args := #[Operand.tmp 106, Operand.tmp 107], argTypes := #[22, 24] }, type := 4, pos := "outright.go:49", after := #[{ on := 22, ground := Ground.data }, { on := 23, ground := Ground.data }, { on := 20, ground := Ground.chain }, { on := 20, ground := Ground.guard }], guard := some (20, false) }) rfl (fun K hK => ?_) AllReadyH.nil
        have CN : Hid _ := has_any v2w (some ⟨b1, o1, none⟩) cA nA lA (x, x) LA.out (by omega) (PA.out _ (HX.out _ B_v2w.out))
        rw [HA1.out] at CN
        unfold encP at CN
        go_simp
        go_at_call 12
        refine Calls.mono CN.out ?_
        rintro e v3w ⟨rfl, hb⟩
        have B_v3w : Hid (Below w9.drew.heap.size w9.drew v3w) := B_v2w.out.trans (hb.mono B_v2w.out.size)
        clear CN hb
        try go_wp2_with fail
        refine hK.out _ _ ?_ (fun hHeld_24 => ?_)
        · exact SS.out _ B_v3w.out
        clear hK K
        try simp only [Act.put, List.setIfInBounds_toArray, List.set_cons_zero, List.set_cons_succ]
        refine wpAnyH_take (i := 25) (oi := { dst := some 109, op := Op.unOp UnOp.not 4 (Operand.tmp 108), type := 4, pos := "outright.go:49", after := #[{ on := 24, ground := Ground.data }, { on := 20, ground := Ground.guard }], guard := some (20, false) }) (v := ?_) rfl (by kernel_rfl) (by kernel_rfl) (by kernel_rfl) (fun _ _ _ h => h) (Or.inl ⟨by rfl, ?_⟩) hHeld_24 ?_
        rotate_left
        · (intro w hSw; (try dsimp only at hSw); go_simp; try with_reducible rfl)
        try simp only [Act.put, List.setIfInBounds_toArray, List.set_cons_zero, List.set_cons_succ]
        refine wpAnyH_take (i := 26) (oi := { dst := some 110, op := Op.pick (Operand.tmp 104) (Operand.const (Value.bool true)) (Operand.tmp 109), type := 4, pos := "outright.go:49", after := #[{ on := 20, ground := Ground.data }, { on := 25, ground := Ground.data }], guard := none }) (v := ?_) rfl (by kernel_rfl) (by kernel_rfl) (by kernel_rfl) (fun _ _ _ h => h) (Or.inl ⟨by rfl, ?_⟩) hHeld_24 ?_
        rotate_left
        · (intro w hSw; (try dsimp only at hSw); go_simp; try with_reducible rfl)
        try simp only [Act.put, List.setIfInBounds_toArray, List.set_cons_zero, List.set_cons_succ]
        refine wpAnyH_take (i := 27) (oi := { dst := some 111, op := Op.move (Operand.tmp 110), type := 4, pos := "outright.go:49", after := #[{ on := 26, ground := Ground.data }, { on := 24, ground := Ground.chain }], guard := none }) (v := ?_) rfl (by kernel_rfl) (by kernel_rfl) (by kernel_rfl) (fun _ _ _ h => h) (Or.inl ⟨by rfl, ?_⟩) hHeld_24 ?_
        rotate_left
        · (intro w hSw; (try dsimp only at hSw); go_simp; try with_reducible rfl)
        try simp only [Act.put, List.setIfInBounds_toArray, List.set_cons_zero, List.set_cons_succ]
        refine wpAnyH_take (i := 28) (oi := { dst := some 112, op := Op.fieldAddr 27 (Operand.tmp 1) 0, type := 0, pos := "outright.go:49", after := #[{ on := 27, ground := Ground.guard }], guard := some (27, false) }) (v := ?_) rfl (by kernel_rfl) (by kernel_rfl) (by kernel_rfl) (fun _ _ _ h => h) (Or.inl ⟨by rfl, ?_⟩) hHeld_24 ?_
        rotate_left
        · (intro w hSw; (try dsimp only at hSw); go_simp; try with_reducible rfl)
        try simp only [Act.put, List.setIfInBounds_toArray, List.set_cons_zero, List.set_cons_succ]
        refine wpAnyH_take (i := 29) (oi := { dst := some 113, op := Op.load 22 (Operand.tmp 112), type := 22, pos := "outright.go:49", after := #[{ on := 28, ground := Ground.data }, { on := 27, ground := Ground.guard }], guard := some (27, false) }) (v := ?_) rfl (by kernel_rfl) (by kernel_rfl) (by kernel_rfl) (fun _ _ _ h => h) (Or.inl ⟨by rfl, ?_⟩) hHeld_24 ?_
        rotate_left
        · (intro w hSw; (try dsimp only at hSw); go_simp; try with_reducible rfl)
        try simp only [Act.put, List.setIfInBounds_toArray, List.set_cons_zero, List.set_cons_succ]
        refine wpAnyH_take (i := 30) (oi := { dst := some 114, op := Op.fieldAddr 24 (Operand.tmp 7) 1, type := 0, pos := "outright.go:49", after := #[{ on := 27, ground := Ground.guard }], guard := some (27, false) }) (v := ?_) rfl (by kernel_rfl) (by kernel_rfl) (by kernel_rfl) (fun _ _ _ h => h) (Or.inl ⟨by rfl, ?_⟩) hHeld_24 ?_
        rotate_left
        · (intro w hSw; (try dsimp only at hSw); go_simp; try with_reducible rfl)
        try simp only [Act.put, List.setIfInBounds_toArray, List.set_cons_zero, List.set_cons_succ]
        refine wpAnyH_take (i := 31) (oi := { dst := some 115, op := Op.load 3 (Operand.tmp 114), type := 3, pos := "outright.go:49", after := #[{ on := 30, ground := Ground.data }, { on := 27, ground := Ground.guard }], guard := some (27, false) }) (v := ?_) rfl (by kernel_rfl) (by kernel_rfl) (by kernel_rfl) (fun _ _ _ h => h) (Or.inl ⟨by rfl, ?_⟩) hHeld_24 ?_
        rotate_left
        · (intro w hSw; (try dsimp only at hSw); go_simp; try with_reducible rfl)
        try simp only [Act.put, List.setIfInBounds_toArray, List.set_cons_zero, List.set_cons_succ]
        refine wpAnyH_take (i := 32) (oi := { dst := some 116, op := Op.fieldAddr 24 (Operand.tmp 7) 0, type := 0, pos := "outright.go:49", after := #[{ on := 27, ground := Ground.guard }], guard := some (27, false) }) (v := ?_) rfl (by kernel_rfl) (by kernel_rfl) (by kernel_rfl) (fun _ _ _ h => h) (Or.inl ⟨by rfl, ?_⟩) hHeld_24 ?_
        rotate_left
        · (intro w hSw; (try dsimp only at hSw); go_simp; try with_reducible rfl)
        try simp only [Act.put, List.setIfInBounds_toArray, List.set_cons_zero, List.set_cons_succ]
        refine wpAnyH_take (i := 33) (oi := { dst := some 117, op := Op.load 3 (Operand.tmp 116), type := 3, pos := "outright.go:49", after := #[{ on := 32, ground := Ground.data }, { on := 27, ground := Ground.guard }], guard := some (27, false) }) (v := ?_) rfl (by kernel_rfl) (by kernel_rfl) (by kernel_rfl) (fun _ _ _ h => h) (Or.inl ⟨by rfl, ?_⟩) hHeld_24 ?_
        rotate_left
        · (intro w hSw; (try dsimp only at hSw); go_simp; try with_reducible rfl)
        try simp only [Act.put, List.setIfInBounds_toArray, List.set_cons_zero, List.set_cons_succ]
        refine wpAnyH_take (i := 34) (oi := { dst := some 118, op := Op.build 24 #[(0, Operand.tmp 115), (1, Operand.tmp 117)], type := 24, pos := "outright.go:49", after := #[{ on := 31, ground := Ground.data }, { on := 33, ground := Ground.data }, { on := 27, ground := Ground.guard }], guard := some (27, false) }) (v := ?_) rfl (by kernel_rfl) (by kernel_rfl) (by kernel_rfl) (fun _ _ _ h => h) (Or.inl ⟨by rfl, ?_⟩) hHeld_24 ?_
        rotate_left
        · (intro w hSw; (try dsimp only at hSw); go_simp; try with_reducible rfl)
        try simp only [Act.put, List.setIfInBounds_toArray, List.set_cons_zero, List.set_cons_succ]
        refine wpAnyH_ready (rs := [35]) (by kernel_rfl) (by simp) ?_
        refine AllReadyH.cons (o := { dst := some 119, op := Op.call { callee := Callee.value (Operand.func 12), args := #[Operand.tmp 113, Operand.tmp 118], argTypes := #[22, 24] }, type := 4, pos := "outright.go:49", after := #[{ on := 29, ground := Ground.data }, { on := 34, ground := Ground.data }, { on := 27, ground := Ground.chain }, { on := 27, ground := Ground.guard }], guard := some (27, false) }) rfl (fun K hK => ?_) AllReadyH.nil
        have CN : Hid _ := has_any v3w (some ⟨b1, o1, none⟩) cA nA lA (x, x) LA.out (by omega) (PA.out _ (HX.out _ B_v3w.out))
        rw [HA2.out] at CN
        unfold encP at CN
        go_simp
        go_at_call 12
        refine Calls.mono CN.out ?_
        rintro e v4w ⟨rfl, hb⟩
        have B_v4w : Hid (Below w9.drew.heap.size w9.drew v4w) := B_v3w.out.trans (hb.mono B_v3w.out.size)
        clear CN hb
        try go_wp2_with fail
        refine hK.out _ _ ?_ (fun hHeld_35 => ?_)
        · exact SS.out _ B_v4w.out
        clear hK K
        try simp only [Act.put, List.setIfInBounds_toArray, List.set_cons_zero, List.set_cons_succ]
        refine wpAnyH_take (i := 36) (oi := { dst := some 120, op := Op.unOp UnOp.not 4 (Operand.tmp 119), type := 4, pos := "outright.go:49", after := #[{ on := 35, ground := Ground.data }, { on := 27, ground := Ground.guard }], guard := some (27, false) }) (v := ?_) rfl (by kernel_rfl) (by kernel_rfl) (by kernel_rfl) (fun _ _ _ h => h) (Or.inl ⟨by rfl, ?_⟩) hHeld_35 ?_
        rotate_left
        · (intro w hSw; (try dsimp only at hSw); go_simp; try with_reducible rfl)
        try simp only [Act.put, List.setIfInBounds_toArray, List.set_cons_zero, List.set_cons_succ]
        refine wpAnyH_take (i := 37) (oi := { dst := some 121, op := Op.pick (Operand.tmp 111) (Operand.const (Value.bool true)) (Operand.tmp 120), type := 4, pos := "outright.go:49", after := #[{ on := 27, ground := Ground.data }, { on := 36, ground := Ground.data }], guard := none }) (v := ?_) rfl (by kernel_rfl) (by kernel_rfl) (by kernel_rfl) (fun _ _ _ h => h) (Or.inl ⟨by rfl, ?_⟩) hHeld_35 ?_
        rotate_left
        · (intro w hSw; (try dsimp only at hSw); go_simp; try with_reducible rfl)
        try simp only [Act.put, List.setIfInBounds_toArray, List.set_cons_zero, List.set_cons_succ]
        refine wpAnyH_done (by kernel_rfl) ?_ _
        clear SNn SNu HA1 HA2
        obtain ⟨l0, l4, z0, z1⟩ := SS.out _ B_v4w.out
        clear SS
        rcases hv1 : hasI vl x
        · have CN : Hid _ := in_any v4w aV cV nV vl x LV.out (by omega) (PV.out _ (HX.out _ B_v4w.out))
          rw [hv1] at CN
          go_wp2_with fail
          refine Calls.mono CN.out ?_
          rintro e wz ⟨rfl, hwz⟩
          subst wz
          clear CN
          have CN : Hid _ := stands_any v4w ao co qo mo (x, x) Qo.out (by omega) (Po.out _ (HX.out _ B_v4w.out))
          rw [SNo.out, hv1] at CN
          unfold encP at CN
          go_wp2_with fail
          refine Calls.mono CN.out ?_
          rintro e w20 ⟨rfl, hb⟩
          have BY : Hid (Below w14.heap.size w14 w20) := (HX.out _ B_v4w.out).trans (hb.mono (HX.out _ B_v4w.out).size)
          clear CN hb SNo
          go_wp2
          go_roundw
          case rel => exact ⟨j + 1, by omega, by go_num, BY.out⟩
          case measure => simp [intOf]; omega
        · have CN : Hid _ := in_any v4w aV cV nV vl x LV.out (by omega) (PV.out _ (HX.out _ B_v4w.out))
          rw [hv1] at CN
          go_wp2_with fail
          refine Calls.mono CN.out ?_
          rintro e wz ⟨rfl, hwz⟩
          subst wz
          clear CN
          have CN : Hid _ := in_any v4w aV cV nV vl x LV.out (by omega) (PV.out _ (HX.out _ B_v4w.out))
          rw [hv1] at CN
          go_wp2_with fail
          refine Calls.mono CN.out ?_
          rintro e wz ⟨rfl, hwz⟩
          subst wz
          clear CN
          have CN : Hid _ := stands_any v4w ao co qo mo (x, x) Qo.out (by omega) (Po.out _ (HX.out _ B_v4w.out))
          rw [SNo.out, hv1] at CN
          unfold encP at CN
          go_wp2_with fail
          refine Calls.mono CN.out ?_
          rintro e w20 ⟨rfl, hb⟩
          have BY : Hid (Below w14.heap.size w14 w20) := (HX.out _ B_v4w.out).trans (hb.mono (HX.out _ B_v4w.out).size)
          clear CN hb SNo
          go_wp2
          go_roundw
          case rel => exact ⟨j + 1, by omega, by go_num, BY.out⟩
          case measure => simp [intOf]; omega
      · have SNn : Hid (standsL mn (x, y) = true) := by show _ = _; rw [stands_norm Nn.out HM.out]; simp [hxy]
        have SNu : Hid (standsL mu (x, y) = true) := by show _ = _; rw [stands_norm Nu.out (List.mem_append_left _ HM.out)]; simp [hxy]
        have SNo : Hid (standsL mo (x, y) = (hasI vl x && hasI vl y && true)) := by show _ = _; rw [stands_only No.out HM.out]; simp [hxy]
        have hxb : (x == y) = false := by rw [beq_eq_false_iff_ne]; exact hxy
        have hxn : (x != y) = true := by rw [bne_iff_ne]; exact hxy
        clear hxy
        refine wp_region_held_drew (S := fun w' => w'.cell? ⟨B, 0, none⟩ = some (.slice (some ⟨b1, o1, none⟩) nA cA) ∧ w'.cell? ⟨B, 4, none⟩ = some (.slice aV nV cV) ∧ w'.cell? ⟨Bp, 0, none⟩ = some (.int .i64 x) ∧ w'.cell? ⟨Bp, 1, none⟩ = some (.int .i64 y)) (by kernel_rfl) ?_ (fun hHeld => ?_)
        · exact SS.out _ (Below.refl _ _)
        refine wpAnyH_take (i := 0) (oi := { dst := some 84, op := Op.move (Operand.tmp 3), type := 22, pos := "outright.go:49", after := #[], guard := none }) (v := ?_) rfl (by kernel_rfl) (by kernel_rfl) (by kernel_rfl) (fun _ _ _ h => h) (Or.inl ⟨by rfl, ?_⟩) hHeld ?_
        rotate_left
        · (intro w hSw; (try dsimp only at hSw); go_simp; try with_reducible rfl)
        try simp only [Act.put, List.setIfInBounds_toArray, List.set_cons_zero, List.set_cons_succ]
        refine wpAnyH_take (i := 1) (oi := { dst := some 85, op := Op.load 24 (Operand.tmp 7), type := 24, pos := "outright.go:49", after := #[], guard := none }) (v := ?_) rfl (by kernel_rfl) (by kernel_rfl) (by kernel_rfl) (fun _ _ _ h => h) (Or.inl ⟨by rfl, ?_⟩) hHeld ?_
        rotate_left
        · (intro w hSw; (try dsimp only at hSw); go_simp; try with_reducible rfl)
        try simp only [Act.put, List.setIfInBounds_toArray, List.set_cons_zero, List.set_cons_succ]
        refine wpAnyH_take (i := 3) (oi := { dst := some 87, op := Op.fieldAddr 24 (Operand.tmp 7) 0, type := 0, pos := "outright.go:49", after := #[], guard := none }) (v := ?_) rfl (by kernel_rfl) (by kernel_rfl) (by kernel_rfl) (fun _ _ _ h => h) (Or.inl ⟨by rfl, ?_⟩) hHeld ?_
        rotate_left
        · (intro w hSw; (try dsimp only at hSw); go_simp; try with_reducible rfl)
        try simp only [Act.put, List.setIfInBounds_toArray, List.set_cons_zero, List.set_cons_succ]
        refine wpAnyH_take (i := 4) (oi := { dst := some 88, op := Op.load 3 (Operand.tmp 87), type := 3, pos := "outright.go:49", after := #[{ on := 3, ground := Ground.data }], guard := none }) (v := ?_) rfl (by kernel_rfl) (by kernel_rfl) (by kernel_rfl) (fun _ _ _ h => h) (Or.inl ⟨by rfl, ?_⟩) hHeld ?_
        rotate_left
        · (intro w hSw; (try dsimp only at hSw); go_simp; try with_reducible rfl)
        try simp only [Act.put, List.setIfInBounds_toArray, List.set_cons_zero, List.set_cons_succ]
        refine wpAnyH_take (i := 5) (oi := { dst := some 89, op := Op.fieldAddr 24 (Operand.tmp 7) 1, type := 0, pos := "outright.go:49", after := #[], guard := none }) (v := ?_) rfl (by kernel_rfl) (by kernel_rfl) (by kernel_rfl) (fun _ _ _ h => h) (Or.inl ⟨by rfl, ?_⟩) hHeld ?_
        rotate_left
        · (intro w hSw; (try dsimp only at hSw); go_simp; try with_reducible rfl)
        try simp only [Act.put, List.setIfInBounds_toArray, List.set_cons_zero, List.set_cons_succ]
        refine wpAnyH_take (i := 6) (oi := { dst := some 90, op := Op.load 3 (Operand.tmp 89), type := 3, pos := "outright.go:49", after := #[{ on := 5, ground := Ground.data }], guard := none }) (v := ?_) rfl (by kernel_rfl) (by kernel_rfl) (by kernel_rfl) (fun _ _ _ h => h) (Or.inl ⟨by rfl, ?_⟩) hHeld ?_
        rotate_left
        · (intro w hSw; (try dsimp only at hSw); go_simp; try with_reducible rfl)
        try simp only [Act.put, List.setIfInBounds_toArray, List.set_cons_zero, List.set_cons_succ]
        refine wpAnyH_take (i := 7) (oi := { dst := some 91, op := Op.binOp BinOp.neq 3 (Operand.tmp 88) (Operand.tmp 90) 3, type := 4, pos := "outright.go:49", after := #[{ on := 4, ground := Ground.data }, { on := 6, ground := Ground.data }], guard := none }) (v := ?_) rfl (by kernel_rfl) (by kernel_rfl) (by kernel_rfl) (fun _ _ _ h => h) (Or.inl ⟨by rfl, ?_⟩) hHeld ?_
        rotate_left
        · (intro w hSw; (try dsimp only at hSw); go_simp; try with_reducible rfl)
        try simp only [Act.put, List.setIfInBounds_toArray, List.set_cons_zero, List.set_cons_succ]
        refine wpAnyH_ready (rs := [2]) (by kernel_rfl) (by simp) ?_
        refine AllReadyH.cons (o := { dst := some 86, op := Op.call { callee := Callee.value (Operand.func 11), args := #[Operand.tmp 84, Operand.tmp 85], argTypes := #[22, 24] }, type := 4, pos := "outright.go:49", after := #[{ on := 0, ground := Ground.data }, { on := 1, ground := Ground.data }], guard := none }) rfl (fun K hK => ?_) AllReadyH.nil
        have CN : Hid _ := stands_any w9.drew an cn qn mn (x, y) Qn.out (by omega) (Pn.out _ (HX.out _ B_W9.out))
        rw [SNn.out] at CN
        unfold encP at CN
        go_simp
        go_at_call 11
        refine Calls.mono CN.out ?_
        rintro e v1w ⟨rfl, hb⟩
        have B_v1w : Hid (Below w9.drew.heap.size w9.drew v1w) := B_W9.out.trans (hb.mono B_W9.out.size)
        clear CN hb
        try go_wp2_with fail
        refine hK.out _ _ ?_ (fun hHeld_2 => ?_)
        · exact SS.out _ B_v1w.out
        clear hK K
        try simp only [Act.put, List.setIfInBounds_toArray, List.set_cons_zero, List.set_cons_succ]
        refine wpAnyH_take (i := 8) (oi := { dst := some 92, op := Op.binOp BinOp.neq 4 (Operand.tmp 86) (Operand.tmp 91) 4, type := 4, pos := "outright.go:49", after := #[{ on := 2, ground := Ground.data }, { on := 7, ground := Ground.data }], guard := none }) (v := ?_) rfl (by kernel_rfl) (by kernel_rfl) (by kernel_rfl) (fun _ _ _ h => h) (Or.inl ⟨by rfl, ?_⟩) hHeld_2 ?_
        rotate_left
        · (intro w hSw; (try dsimp only at hSw); go_simp; try with_reducible rfl)
        try simp only [Act.put, List.setIfInBounds_toArray, List.set_cons_zero, List.set_cons_succ]
        refine wpAnyH_take (i := 9) (oi := { dst := some 93, op := Op.move (Operand.tmp 92), type := 4, pos := "outright.go:49", after := #[{ on := 8, ground := Ground.data }, { on := 2, ground := Ground.chain }], guard := none }) (v := ?_) rfl (by kernel_rfl) (by kernel_rfl) (by kernel_rfl) (fun _ _ _ h => h) (Or.inl ⟨by rfl, ?_⟩) hHeld_2 ?_
        rotate_left
        · (intro w hSw; (try dsimp only at hSw); go_simp; try with_reducible rfl)
        try simp only [Act.put, List.setIfInBounds_toArray, List.set_cons_zero, List.set_cons_succ]
        refine wpAnyH_take (i := 10) (oi := { dst := some 94, op := Op.move (Operand.tmp 4), type := 22, pos := "outright.go:49", after := #[{ on := 9, ground := Ground.guard }], guard := some (9, false) }) (v := ?_) rfl (by kernel_rfl) (by kernel_rfl) (by kernel_rfl) (fun _ _ _ h => h) (Or.inl ⟨by rfl, ?_⟩) hHeld_2 ?_
        rotate_left
        · (intro w hSw; (try dsimp only at hSw); go_simp; try with_reducible rfl)
        try simp only [Act.put, List.setIfInBounds_toArray, List.set_cons_zero, List.set_cons_succ]
        refine wpAnyH_take (i := 11) (oi := { dst := some 95, op := Op.load 24 (Operand.tmp 7), type := 24, pos := "outright.go:49", after := #[{ on := 9, ground := Ground.guard }], guard := some (9, false) }) (v := ?_) rfl (by kernel_rfl) (by kernel_rfl) (by kernel_rfl) (fun _ _ _ h => h) (Or.inl ⟨by rfl, ?_⟩) hHeld_2 ?_
        rotate_left
        · (intro w hSw; (try dsimp only at hSw); go_simp; try with_reducible rfl)
        try simp only [Act.put, List.setIfInBounds_toArray, List.set_cons_zero, List.set_cons_succ]
        refine wpAnyH_take (i := 13) (oi := { dst := some 97, op := Op.fieldAddr 24 (Operand.tmp 7) 0, type := 0, pos := "outright.go:49", after := #[{ on := 9, ground := Ground.guard }], guard := some (9, false) }) (v := ?_) rfl (by kernel_rfl) (by kernel_rfl) (by kernel_rfl) (fun _ _ _ h => h) (Or.inl ⟨by rfl, ?_⟩) hHeld_2 ?_
        rotate_left
        · (intro w hSw; (try dsimp only at hSw); go_simp; try with_reducible rfl)
        try simp only [Act.put, List.setIfInBounds_toArray, List.set_cons_zero, List.set_cons_succ]
        refine wpAnyH_take (i := 14) (oi := { dst := some 98, op := Op.load 3 (Operand.tmp 97), type := 3, pos := "outright.go:49", after := #[{ on := 13, ground := Ground.data }, { on := 9, ground := Ground.guard }], guard := some (9, false) }) (v := ?_) rfl (by kernel_rfl) (by kernel_rfl) (by kernel_rfl) (fun _ _ _ h => h) (Or.inl ⟨by rfl, ?_⟩) hHeld_2 ?_
        rotate_left
        · (intro w hSw; (try dsimp only at hSw); go_simp; try with_reducible rfl)
        try simp only [Act.put, List.setIfInBounds_toArray, List.set_cons_zero, List.set_cons_succ]
        refine wpAnyH_take (i := 15) (oi := { dst := some 99, op := Op.fieldAddr 24 (Operand.tmp 7) 1, type := 0, pos := "outright.go:49", after := #[{ on := 9, ground := Ground.guard }], guard := some (9, false) }) (v := ?_) rfl (by kernel_rfl) (by kernel_rfl) (by kernel_rfl) (fun _ _ _ h => h) (Or.inl ⟨by rfl, ?_⟩) hHeld_2 ?_
        rotate_left
        · (intro w hSw; (try dsimp only at hSw); go_simp; try with_reducible rfl)
        try simp only [Act.put, List.setIfInBounds_toArray, List.set_cons_zero, List.set_cons_succ]
        refine wpAnyH_take (i := 16) (oi := { dst := some 100, op := Op.load 3 (Operand.tmp 99), type := 3, pos := "outright.go:49", after := #[{ on := 15, ground := Ground.data }, { on := 9, ground := Ground.guard }], guard := some (9, false) }) (v := ?_) rfl (by kernel_rfl) (by kernel_rfl) (by kernel_rfl) (fun _ _ _ h => h) (Or.inl ⟨by rfl, ?_⟩) hHeld_2 ?_
        rotate_left
        · (intro w hSw; (try dsimp only at hSw); go_simp; try with_reducible rfl)
        try simp only [Act.put, List.setIfInBounds_toArray, List.set_cons_zero, List.set_cons_succ]
        refine wpAnyH_take (i := 17) (oi := { dst := some 101, op := Op.binOp BinOp.neq 3 (Operand.tmp 98) (Operand.tmp 100) 3, type := 4, pos := "outright.go:49", after := #[{ on := 14, ground := Ground.data }, { on := 16, ground := Ground.data }, { on := 9, ground := Ground.guard }], guard := some (9, false) }) (v := ?_) rfl (by kernel_rfl) (by kernel_rfl) (by kernel_rfl) (fun _ _ _ h => h) (Or.inl ⟨by rfl, ?_⟩) hHeld_2 ?_
        rotate_left
        · (intro w hSw; (try dsimp only at hSw); go_simp; try with_reducible rfl)
        try simp only [Act.put, List.setIfInBounds_toArray, List.set_cons_zero, List.set_cons_succ]
        refine wpAnyH_ready (rs := [12]) (by kernel_rfl) (by simp) ?_
        refine AllReadyH.cons (o := { dst := some 96, op := Op.call { callee := Callee.value (Operand.func 11), args := #[Operand.tmp 94, Operand.tmp 95], argTypes := #[22, 24] }, type := 4, pos := "outright.go:49", after := #[{ on := 10, ground := Ground.data }, { on := 11, ground := Ground.data }, { on := 9, ground := Ground.chain }, { on := 9, ground := Ground.guard }], guard := some (9, false) }) rfl (fun K hK => ?_) AllReadyH.nil
        have CN : Hid _ := stands_any v1w au cu qu mu (x, y) Qu.out (by omega) (Pu.out _ (HX.out _ B_v1w.out))
        rw [SNu.out] at CN
        unfold encP at CN
        go_simp
        go_at_call 11
        refine Calls.mono CN.out ?_
        rintro e v2w ⟨rfl, hb⟩
        have B_v2w : Hid (Below w9.drew.heap.size w9.drew v2w) := B_v1w.out.trans (hb.mono B_v1w.out.size)
        clear CN hb
        try go_wp2_with fail
        refine hK.out _ _ ?_ (fun hHeld_12 => ?_)
        · exact SS.out _ B_v2w.out
        clear hK K
        try simp only [Act.put, List.setIfInBounds_toArray, List.set_cons_zero, List.set_cons_succ]
        refine wpAnyH_take (i := 18) (oi := { dst := some 102, op := Op.binOp BinOp.neq 4 (Operand.tmp 96) (Operand.tmp 101) 4, type := 4, pos := "outright.go:49", after := #[{ on := 12, ground := Ground.data }, { on := 17, ground := Ground.data }, { on := 9, ground := Ground.guard }], guard := some (9, false) }) (v := ?_) rfl (by kernel_rfl) (by kernel_rfl) (by kernel_rfl) (fun _ _ _ h => h) (Or.inl ⟨by rfl, ?_⟩) hHeld_12 ?_
        rotate_left
        · (intro w hSw; (try dsimp only at hSw); go_simp; try with_reducible rfl)
        try simp only [Act.put, List.setIfInBounds_toArray, List.set_cons_zero, List.set_cons_succ]
        refine wpAnyH_take (i := 19) (oi := { dst := some 103, op := Op.pick (Operand.tmp 93) (Operand.const (Value.bool true)) (Operand.tmp 102), type := 4, pos := "outright.go:49", after := #[{ on := 9, ground := Ground.data }, { on := 18, ground := Ground.data }], guard := none }) (v := ?_) rfl (by kernel_rfl) (by kernel_rfl) (by kernel_rfl) (fun _ _ _ h => h) (Or.inl ⟨by rfl, ?_⟩) hHeld_12 ?_
        rotate_left
        · (intro w hSw; (try dsimp only at hSw); go_simp; try with_reducible rfl)
        try simp only [Act.put, List.setIfInBounds_toArray, List.set_cons_zero, List.set_cons_succ]
        refine wpAnyH_take (i := 20) (oi := { dst := some 104, op := Op.move (Operand.tmp 103), type := 4, pos := "outright.go:49", after := #[{ on := 19, ground := Ground.data }, { on := 12, ground := Ground.chain }], guard := none }) (v := ?_) rfl (by kernel_rfl) (by kernel_rfl) (by kernel_rfl) (fun _ _ _ h => h) (Or.inl ⟨by rfl, ?_⟩) hHeld_12 ?_
        rotate_left
        · (intro w hSw; (try dsimp only at hSw); go_simp; try with_reducible rfl)
        try simp only [Act.put, List.setIfInBounds_toArray, List.set_cons_zero, List.set_cons_succ]
        refine wpAnyH_take (i := 21) (oi := { dst := some 105, op := Op.fieldAddr 27 (Operand.tmp 1) 0, type := 0, pos := "outright.go:49", after := #[{ on := 20, ground := Ground.guard }], guard := some (20, false) }) (v := ?_) rfl (by kernel_rfl) (by kernel_rfl) (by kernel_rfl) (fun _ _ _ h => h) (Or.inl ⟨by rfl, ?_⟩) hHeld_12 ?_
        rotate_left
        · (intro w hSw; (try dsimp only at hSw); go_simp; try with_reducible rfl)
        try simp only [Act.put, List.setIfInBounds_toArray, List.set_cons_zero, List.set_cons_succ]
        refine wpAnyH_take (i := 22) (oi := { dst := some 106, op := Op.load 22 (Operand.tmp 105), type := 22, pos := "outright.go:49", after := #[{ on := 21, ground := Ground.data }, { on := 20, ground := Ground.guard }], guard := some (20, false) }) (v := ?_) rfl (by kernel_rfl) (by kernel_rfl) (by kernel_rfl) (fun _ _ _ h => h) (Or.inl ⟨by rfl, ?_⟩) hHeld_12 ?_
        rotate_left
        · (intro w hSw; (try dsimp only at hSw); go_simp; try with_reducible rfl)
        try simp only [Act.put, List.setIfInBounds_toArray, List.set_cons_zero, List.set_cons_succ]
        refine wpAnyH_take (i := 23) (oi := { dst := some 107, op := Op.load 24 (Operand.tmp 7), type := 24, pos := "outright.go:49", after := #[{ on := 20, ground := Ground.guard }], guard := some (20, false) }) (v := ?_) rfl (by kernel_rfl) (by kernel_rfl) (by kernel_rfl) (fun _ _ _ h => h) (Or.inl ⟨by rfl, ?_⟩) hHeld_12 ?_
        rotate_left
        · (intro w hSw; (try dsimp only at hSw); go_simp; try with_reducible rfl)
        try simp only [Act.put, List.setIfInBounds_toArray, List.set_cons_zero, List.set_cons_succ]
        refine wpAnyH_ready (rs := [24]) (by kernel_rfl) (by simp) ?_
        refine AllReadyH.cons (o := { dst := some 108, op := Op.call { callee := Callee.value (Operand.func 12), args := #[Operand.tmp 106, Operand.tmp 107], argTypes := #[22, 24] }, type := 4, pos := "outright.go:49", after := #[{ on := 22, ground := Ground.data }, { on := 23, ground := Ground.data }, { on := 20, ground := Ground.chain }, { on := 20, ground := Ground.guard }], guard := some (20, false) }) rfl (fun K hK => ?_) AllReadyH.nil
        have CN : Hid _ := has_any v2w (some ⟨b1, o1, none⟩) cA nA lA (x, y) LA.out (by omega) (PA.out _ (HX.out _ B_v2w.out))
        rw [HA1.out] at CN
        unfold encP at CN
        go_simp
        go_at_call 12
        refine Calls.mono CN.out ?_
        rintro e v3w ⟨rfl, hb⟩
        have B_v3w : Hid (Below w9.drew.heap.size w9.drew v3w) := B_v2w.out.trans (hb.mono B_v2w.out.size)
        clear CN hb
        try go_wp2_with fail
        refine hK.out _ _ ?_ (fun hHeld_24 => ?_)
        · exact SS.out _ B_v3w.out
        clear hK K
        try simp only [Act.put, List.setIfInBounds_toArray, List.set_cons_zero, List.set_cons_succ]
        refine wpAnyH_take (i := 25) (oi := { dst := some 109, op := Op.unOp UnOp.not 4 (Operand.tmp 108), type := 4, pos := "outright.go:49", after := #[{ on := 24, ground := Ground.data }, { on := 20, ground := Ground.guard }], guard := some (20, false) }) (v := ?_) rfl (by kernel_rfl) (by kernel_rfl) (by kernel_rfl) (fun _ _ _ h => h) (Or.inl ⟨by rfl, ?_⟩) hHeld_24 ?_
        rotate_left
        · (intro w hSw; (try dsimp only at hSw); go_simp; try with_reducible rfl)
        try simp only [Act.put, List.setIfInBounds_toArray, List.set_cons_zero, List.set_cons_succ]
        refine wpAnyH_take (i := 26) (oi := { dst := some 110, op := Op.pick (Operand.tmp 104) (Operand.const (Value.bool true)) (Operand.tmp 109), type := 4, pos := "outright.go:49", after := #[{ on := 20, ground := Ground.data }, { on := 25, ground := Ground.data }], guard := none }) (v := ?_) rfl (by kernel_rfl) (by kernel_rfl) (by kernel_rfl) (fun _ _ _ h => h) (Or.inl ⟨by rfl, ?_⟩) hHeld_24 ?_
        rotate_left
        · (intro w hSw; (try dsimp only at hSw); go_simp; try with_reducible rfl)
        try simp only [Act.put, List.setIfInBounds_toArray, List.set_cons_zero, List.set_cons_succ]
        refine wpAnyH_take (i := 27) (oi := { dst := some 111, op := Op.move (Operand.tmp 110), type := 4, pos := "outright.go:49", after := #[{ on := 26, ground := Ground.data }, { on := 24, ground := Ground.chain }], guard := none }) (v := ?_) rfl (by kernel_rfl) (by kernel_rfl) (by kernel_rfl) (fun _ _ _ h => h) (Or.inl ⟨by rfl, ?_⟩) hHeld_24 ?_
        rotate_left
        · (intro w hSw; (try dsimp only at hSw); go_simp; try with_reducible rfl)
        try simp only [Act.put, List.setIfInBounds_toArray, List.set_cons_zero, List.set_cons_succ]
        refine wpAnyH_take (i := 28) (oi := { dst := some 112, op := Op.fieldAddr 27 (Operand.tmp 1) 0, type := 0, pos := "outright.go:49", after := #[{ on := 27, ground := Ground.guard }], guard := some (27, false) }) (v := ?_) rfl (by kernel_rfl) (by kernel_rfl) (by kernel_rfl) (fun _ _ _ h => h) (Or.inl ⟨by rfl, ?_⟩) hHeld_24 ?_
        rotate_left
        · (intro w hSw; (try dsimp only at hSw); go_simp; try with_reducible rfl)
        try simp only [Act.put, List.setIfInBounds_toArray, List.set_cons_zero, List.set_cons_succ]
        refine wpAnyH_take (i := 29) (oi := { dst := some 113, op := Op.load 22 (Operand.tmp 112), type := 22, pos := "outright.go:49", after := #[{ on := 28, ground := Ground.data }, { on := 27, ground := Ground.guard }], guard := some (27, false) }) (v := ?_) rfl (by kernel_rfl) (by kernel_rfl) (by kernel_rfl) (fun _ _ _ h => h) (Or.inl ⟨by rfl, ?_⟩) hHeld_24 ?_
        rotate_left
        · (intro w hSw; (try dsimp only at hSw); go_simp; try with_reducible rfl)
        try simp only [Act.put, List.setIfInBounds_toArray, List.set_cons_zero, List.set_cons_succ]
        refine wpAnyH_take (i := 30) (oi := { dst := some 114, op := Op.fieldAddr 24 (Operand.tmp 7) 1, type := 0, pos := "outright.go:49", after := #[{ on := 27, ground := Ground.guard }], guard := some (27, false) }) (v := ?_) rfl (by kernel_rfl) (by kernel_rfl) (by kernel_rfl) (fun _ _ _ h => h) (Or.inl ⟨by rfl, ?_⟩) hHeld_24 ?_
        rotate_left
        · (intro w hSw; (try dsimp only at hSw); go_simp; try with_reducible rfl)
        try simp only [Act.put, List.setIfInBounds_toArray, List.set_cons_zero, List.set_cons_succ]
        refine wpAnyH_take (i := 31) (oi := { dst := some 115, op := Op.load 3 (Operand.tmp 114), type := 3, pos := "outright.go:49", after := #[{ on := 30, ground := Ground.data }, { on := 27, ground := Ground.guard }], guard := some (27, false) }) (v := ?_) rfl (by kernel_rfl) (by kernel_rfl) (by kernel_rfl) (fun _ _ _ h => h) (Or.inl ⟨by rfl, ?_⟩) hHeld_24 ?_
        rotate_left
        · (intro w hSw; (try dsimp only at hSw); go_simp; try with_reducible rfl)
        try simp only [Act.put, List.setIfInBounds_toArray, List.set_cons_zero, List.set_cons_succ]
        refine wpAnyH_take (i := 32) (oi := { dst := some 116, op := Op.fieldAddr 24 (Operand.tmp 7) 0, type := 0, pos := "outright.go:49", after := #[{ on := 27, ground := Ground.guard }], guard := some (27, false) }) (v := ?_) rfl (by kernel_rfl) (by kernel_rfl) (by kernel_rfl) (fun _ _ _ h => h) (Or.inl ⟨by rfl, ?_⟩) hHeld_24 ?_
        rotate_left
        · (intro w hSw; (try dsimp only at hSw); go_simp; try with_reducible rfl)
        try simp only [Act.put, List.setIfInBounds_toArray, List.set_cons_zero, List.set_cons_succ]
        refine wpAnyH_take (i := 33) (oi := { dst := some 117, op := Op.load 3 (Operand.tmp 116), type := 3, pos := "outright.go:49", after := #[{ on := 32, ground := Ground.data }, { on := 27, ground := Ground.guard }], guard := some (27, false) }) (v := ?_) rfl (by kernel_rfl) (by kernel_rfl) (by kernel_rfl) (fun _ _ _ h => h) (Or.inl ⟨by rfl, ?_⟩) hHeld_24 ?_
        rotate_left
        · (intro w hSw; (try dsimp only at hSw); go_simp; try with_reducible rfl)
        try simp only [Act.put, List.setIfInBounds_toArray, List.set_cons_zero, List.set_cons_succ]
        refine wpAnyH_take (i := 34) (oi := { dst := some 118, op := Op.build 24 #[(0, Operand.tmp 115), (1, Operand.tmp 117)], type := 24, pos := "outright.go:49", after := #[{ on := 31, ground := Ground.data }, { on := 33, ground := Ground.data }, { on := 27, ground := Ground.guard }], guard := some (27, false) }) (v := ?_) rfl (by kernel_rfl) (by kernel_rfl) (by kernel_rfl) (fun _ _ _ h => h) (Or.inl ⟨by rfl, ?_⟩) hHeld_24 ?_
        rotate_left
        · (intro w hSw; (try dsimp only at hSw); go_simp; try with_reducible rfl)
        try simp only [Act.put, List.setIfInBounds_toArray, List.set_cons_zero, List.set_cons_succ]
        refine wpAnyH_ready (rs := [35]) (by kernel_rfl) (by simp) ?_
        refine AllReadyH.cons (o := { dst := some 119, op := Op.call { callee := Callee.value (Operand.func 12), args := #[Operand.tmp 113, Operand.tmp 118], argTypes := #[22, 24] }, type := 4, pos := "outright.go:49", after := #[{ on := 29, ground := Ground.data }, { on := 34, ground := Ground.data }, { on := 27, ground := Ground.chain }, { on := 27, ground := Ground.guard }], guard := some (27, false) }) rfl (fun K hK => ?_) AllReadyH.nil
        have CN : Hid _ := has_any v3w (some ⟨b1, o1, none⟩) cA nA lA (y, x) LA.out (by omega) (PA.out _ (HX.out _ B_v3w.out))
        rw [HA2.out] at CN
        unfold encP at CN
        go_simp
        go_at_call 12
        refine Calls.mono CN.out ?_
        rintro e v4w ⟨rfl, hb⟩
        have B_v4w : Hid (Below w9.drew.heap.size w9.drew v4w) := B_v3w.out.trans (hb.mono B_v3w.out.size)
        clear CN hb
        try go_wp2_with fail
        refine hK.out _ _ ?_ (fun hHeld_35 => ?_)
        · exact SS.out _ B_v4w.out
        clear hK K
        try simp only [Act.put, List.setIfInBounds_toArray, List.set_cons_zero, List.set_cons_succ]
        refine wpAnyH_take (i := 36) (oi := { dst := some 120, op := Op.unOp UnOp.not 4 (Operand.tmp 119), type := 4, pos := "outright.go:49", after := #[{ on := 35, ground := Ground.data }, { on := 27, ground := Ground.guard }], guard := some (27, false) }) (v := ?_) rfl (by kernel_rfl) (by kernel_rfl) (by kernel_rfl) (fun _ _ _ h => h) (Or.inl ⟨by rfl, ?_⟩) hHeld_35 ?_
        rotate_left
        · (intro w hSw; (try dsimp only at hSw); go_simp; try with_reducible rfl)
        try simp only [Act.put, List.setIfInBounds_toArray, List.set_cons_zero, List.set_cons_succ]
        refine wpAnyH_take (i := 37) (oi := { dst := some 121, op := Op.pick (Operand.tmp 111) (Operand.const (Value.bool true)) (Operand.tmp 120), type := 4, pos := "outright.go:49", after := #[{ on := 27, ground := Ground.data }, { on := 36, ground := Ground.data }], guard := none }) (v := ?_) rfl (by kernel_rfl) (by kernel_rfl) (by kernel_rfl) (fun _ _ _ h => h) (Or.inl ⟨by rfl, ?_⟩) hHeld_35 ?_
        rotate_left
        · (intro w hSw; (try dsimp only at hSw); go_simp; try with_reducible rfl)
        try simp only [Act.put, List.setIfInBounds_toArray, List.set_cons_zero, List.set_cons_succ]
        refine wpAnyH_done (by kernel_rfl) ?_ _
        clear SNn SNu HA1 HA2
        obtain ⟨l0, l4, z0, z1⟩ := SS.out _ B_v4w.out
        clear SS
        rcases hv1 : hasI vl x
        · rcases hv2 : hasI vl y
          · have CN : Hid _ := in_any v4w aV cV nV vl x LV.out (by omega) (PV.out _ (HX.out _ B_v4w.out))
            rw [hv1] at CN
            go_wp2_with fail
            refine Calls.mono CN.out ?_
            rintro e wz ⟨rfl, hwz⟩
            subst wz
            clear CN
            have CN : Hid _ := stands_any v4w ao co qo mo (x, y) Qo.out (by omega) (Po.out _ (HX.out _ B_v4w.out))
            rw [SNo.out, hv1, hv2] at CN
            unfold encP at CN
            go_wp2_with fail
            refine Calls.mono CN.out ?_
            rintro e w20 ⟨rfl, hb⟩
            have BY : Hid (Below w14.heap.size w14 w20) := (HX.out _ B_v4w.out).trans (hb.mono (HX.out _ B_v4w.out).size)
            clear CN hb SNo
            go_wp2
            go_roundw
            case rel => exact ⟨j + 1, by omega, by go_num, BY.out⟩
            case measure => simp [intOf]; omega
          · have CN : Hid _ := in_any v4w aV cV nV vl x LV.out (by omega) (PV.out _ (HX.out _ B_v4w.out))
            rw [hv1] at CN
            go_wp2_with fail
            refine Calls.mono CN.out ?_
            rintro e wz ⟨rfl, hwz⟩
            subst wz
            clear CN
            have CN : Hid _ := stands_any v4w ao co qo mo (x, y) Qo.out (by omega) (Po.out _ (HX.out _ B_v4w.out))
            rw [SNo.out, hv1, hv2] at CN
            unfold encP at CN
            go_wp2_with fail
            refine Calls.mono CN.out ?_
            rintro e w20 ⟨rfl, hb⟩
            have BY : Hid (Below w14.heap.size w14 w20) := (HX.out _ B_v4w.out).trans (hb.mono (HX.out _ B_v4w.out).size)
            clear CN hb SNo
            go_wp2
            go_roundw
            case rel => exact ⟨j + 1, by omega, by go_num, BY.out⟩
            case measure => simp [intOf]; omega
        · rcases hv2 : hasI vl y
          · have CN : Hid _ := in_any v4w aV cV nV vl x LV.out (by omega) (PV.out _ (HX.out _ B_v4w.out))
            rw [hv1] at CN
            go_wp2_with fail
            refine Calls.mono CN.out ?_
            rintro e wz ⟨rfl, hwz⟩
            subst wz
            clear CN
            have CN : Hid _ := in_any v4w aV cV nV vl y LV.out (by omega) (PV.out _ (HX.out _ B_v4w.out))
            rw [hv2] at CN
            go_wp2_with fail
            refine Calls.mono CN.out ?_
            rintro e wz ⟨rfl, hwz⟩
            subst wz
            clear CN
            have CN : Hid _ := stands_any v4w ao co qo mo (x, y) Qo.out (by omega) (Po.out _ (HX.out _ B_v4w.out))
            rw [SNo.out, hv1, hv2] at CN
            unfold encP at CN
            go_wp2_with fail
            refine Calls.mono CN.out ?_
            rintro e w20 ⟨rfl, hb⟩
            have BY : Hid (Below w14.heap.size w14 w20) := (HX.out _ B_v4w.out).trans (hb.mono (HX.out _ B_v4w.out).size)
            clear CN hb SNo
            go_wp2
            go_roundw
            case rel => exact ⟨j + 1, by omega, by go_num, BY.out⟩
            case measure => simp [intOf]; omega
          · have CN : Hid _ := in_any v4w aV cV nV vl x LV.out (by omega) (PV.out _ (HX.out _ B_v4w.out))
            rw [hv1] at CN
            go_wp2_with fail
            refine Calls.mono CN.out ?_
            rintro e wz ⟨rfl, hwz⟩
            subst wz
            clear CN
            have CN : Hid _ := in_any v4w aV cV nV vl y LV.out (by omega) (PV.out _ (HX.out _ B_v4w.out))
            rw [hv2] at CN
            go_wp2_with fail
            refine Calls.mono CN.out ?_
            rintro e wz ⟨rfl, hwz⟩
            subst wz
            clear CN
            have CN : Hid _ := stands_any v4w ao co qo mo (x, y) Qo.out (by omega) (Po.out _ (HX.out _ B_v4w.out))
            rw [SNo.out, hv1, hv2] at CN
            unfold encP at CN
            go_wp2_with fail
            refine Calls.mono CN.out ?_
            rintro e w20 ⟨rfl, hb⟩
            have BY : Hid (Below w14.heap.size w14 w20) := (HX.out _ B_v4w.out).trans (hb.mono (HX.out _ B_v4w.out).size)
            clear CN hb SNo
            go_wp2
            go_roundw
            case rel => exact ⟨j + 1, by omega, by go_num, BY.out⟩
            case measure => simp [intOf]; omega
    · have n1 : ¬ (j : Int) < (nA : Int) := by omega
      go_wp2_with fail
      clear hj hlt n1 k0 k1 k2 k3 k4
      go_loopw [9] (fun i wx => ∃ j : Nat, j ≤ qn ∧ i = .int .i64 j ∧ Hid (Below w14.heap.size w14 wx)) (fun i _ => qn - (intOf i).toNat)
      case atStart => exact ⟨0, Nat.zero_le _, rfl, BX.out⟩
      case round =>
        clear BX
        obtain ⟨j, hj, rfl, BX⟩ := hrel
        by_cases hlt : j < qn
        · have n1 : (j : Int) < (qn : Int) := by omega
          obtain ⟨⟨x, y⟩, hx⟩ : ∃ x, mn[j]? = some x := ⟨mn[j]'(by rw [Qn.out]; exact hlt), List.getElem?_eq_getElem _⟩
          obtain ⟨b1, o1, rfl, c1, d1⟩ := Pn.out wr BX.out j _ hx
          have HM : Hid ((x, y) ∈ mn) := List.mem_of_getElem? hx
          have HX : Hid (∀ w', Below wr.drew.heap.size wr.drew w' → Below w14.heap.size w14 w') := fun w' h => BX.out.trans (below_of_drew h BX.out.size)
          have SS : Hid (∀ w', Below wr.drew.heap.size wr.drew w' → w'.cell? ⟨B, 0, none⟩ = some (.slice aA nA cA) ∧ w'.cell? ⟨B, 1, none⟩ = some (.slice aB nB cB) ∧ w'.cell? ⟨b1, o1 + j * 2, none⟩ = some (.int .i64 x) ∧ w'.cell? ⟨b1, o1 + j * 2 + 1, none⟩ = some (.int .i64 y)) := fun w' h => by
            obtain ⟨b2, o2, e2, c2, d2⟩ := Pn.out w' (HX.out w' h) j _ hx
            cases e2
            exact ⟨(KS.out w' (HX.out w' h)).1, (KS.out w' (HX.out w' h)).2.1, c2, d2⟩
          have B_W9 : Hid (Below wr.drew.heap.size wr.drew wr.drew) := Below.refl _ _
          clear hx c1 d1
          go_wp2_with fail
          have ST : Hid (standsL lA (x, y) = true) := stands_of Nn.out HM.out
          refine wp_region_held_drew (S := fun w' => w'.cell? ⟨B, 0, none⟩ = some (.slice aA nA cA) ∧ w'.cell? ⟨B, 1, none⟩ = some (.slice aB nB cB) ∧ w'.cell? ⟨b1, o1 + j * 2, none⟩ = some (.int .i64 x) ∧ w'.cell? ⟨b1, o1 + j * 2 + 1, none⟩ = some (.int .i64 y)) (by kernel_rfl) ?_ (fun hHeld => ?_)
          · exact SS.out _ (Below.refl _ _)
          refine wpAnyH_take (i := 0) (oi := { dst := some 152, op := Op.fieldAddr 27 (Operand.tmp 1) 0, type := 0, pos := "outright.go:58", after := #[], guard := none }) (v := ?_) rfl (by kernel_rfl) (by kernel_rfl) (by kernel_rfl) (fun _ _ _ h => h) (Or.inl ⟨by rfl, ?_⟩) hHeld ?_
          rotate_left
          · (intro w hSw; (try dsimp only at hSw); go_simp; try with_reducible rfl)
          try simp only [Act.put, List.setIfInBounds_toArray, List.set_cons_zero, List.set_cons_succ]
          refine wpAnyH_take (i := 1) (oi := { dst := some 153, op := Op.load 22 (Operand.tmp 152), type := 22, pos := "outright.go:58", after := #[{ on := 0, ground := Ground.data }], guard := none }) (v := ?_) rfl (by kernel_rfl) (by kernel_rfl) (by kernel_rfl) (fun _ _ _ h => h) (Or.inl ⟨by rfl, ?_⟩) hHeld ?_
          rotate_left
          · (intro w hSw; (try dsimp only at hSw); go_simp; try with_reducible rfl)
          try simp only [Act.put, List.setIfInBounds_toArray, List.set_cons_zero, List.set_cons_succ]
          refine wpAnyH_take (i := 2) (oi := { dst := some 154, op := Op.move (Operand.tmp 3), type := 22, pos := "outright.go:58", after := #[], guard := none }) (v := ?_) rfl (by kernel_rfl) (by kernel_rfl) (by kernel_rfl) (fun _ _ _ h => h) (Or.inl ⟨by rfl, ?_⟩) hHeld ?_
          rotate_left
          · (intro w hSw; (try dsimp only at hSw); go_simp; try with_reducible rfl)
          try simp only [Act.put, List.setIfInBounds_toArray, List.set_cons_zero, List.set_cons_succ]
          refine wpAnyH_take (i := 3) (oi := { dst := some 155, op := Op.move (Operand.tmp 9), type := 3, pos := "outright.go:58", after := #[], guard := none }) (v := ?_) rfl (by kernel_rfl) (by kernel_rfl) (by kernel_rfl) (fun _ _ _ h => h) (Or.inl ⟨by rfl, ?_⟩) hHeld ?_
          rotate_left
          · (intro w hSw; (try dsimp only at hSw); go_simp; try with_reducible rfl)
          try simp only [Act.put, List.setIfInBounds_toArray, List.set_cons_zero, List.set_cons_succ]
          refine wpAnyH_take (i := 4) (oi := { dst := some 156, op := Op.indexAddr 22 (Operand.tmp 154) (Operand.tmp 155), type := 0, pos := "outright.go:58", after := #[{ on := 2, ground := Ground.data }, { on := 3, ground := Ground.data }], guard := none }) (v := ?_) rfl (by kernel_rfl) (by kernel_rfl) (by kernel_rfl) (fun _ _ _ h => h) (Or.inl ⟨by rfl, ?_⟩) hHeld ?_
          rotate_left
          · (intro w hSw; (try dsimp only at hSw); go_simp; try with_reducible rfl)
          try simp only [Act.put, List.setIfInBounds_toArray, List.set_cons_zero, List.set_cons_succ]
          refine wpAnyH_take (i := 5) (oi := { dst := some 157, op := Op.load 24 (Operand.tmp 156), type := 24, pos := "outright.go:58", after := #[{ on := 4, ground := Ground.data }], guard := none }) (v := ?_) rfl (by kernel_rfl) (by kernel_rfl) (by kernel_rfl) (fun _ _ _ h => h) (Or.inl ⟨by rfl, ?_⟩) hHeld ?_
          rotate_left
          · (intro w hSw; (try dsimp only at hSw); go_simp; try with_reducible rfl)
          try simp only [Act.put, List.setIfInBounds_toArray, List.set_cons_zero, List.set_cons_succ]
          refine wpAnyH_ready (rs := [6]) (by kernel_rfl) (by simp) ?_
          refine AllReadyH.cons (o := { dst := some 158, op := Op.call { callee := Callee.value (Operand.func 11), args := #[Operand.tmp 153, Operand.tmp 157], argTypes := #[22, 24] }, type := 4, pos := "outright.go:58", after := #[{ on := 1, ground := Ground.data }, { on := 5, ground := Ground.data }], guard := none }) rfl (fun K hK => ?_) AllReadyH.nil
          have CN : Hid _ := stands_any wr.drew aA cA nA lA (x, y) LA.out (by omega) (PA.out _ (HX.out _ B_W9.out))
          rw [ST.out] at CN
          unfold encP at CN
          go_simp
          go_at_call 11
          refine Calls.mono CN.out ?_
          rintro e v1w ⟨rfl, hb⟩
          have B_v1w : Hid (Below wr.drew.heap.size wr.drew v1w) := B_W9.out.trans (hb.mono B_W9.out.size)
          clear CN hb
          try go_wp2_with fail
          refine hK.out _ _ ?_ (fun hHeld_6 => ?_)
          · exact SS.out _ B_v1w.out
          clear hK K
          try simp only [Act.put, List.setIfInBounds_toArray, List.set_cons_zero, List.set_cons_succ]
          refine wpAnyH_take (i := 7) (oi := { dst := some 159, op := Op.unOp UnOp.not 4 (Operand.tmp 158), type := 4, pos := "outright.go:58", after := #[{ on := 6, ground := Ground.data }], guard := none }) (v := ?_) rfl (by kernel_rfl) (by kernel_rfl) (by kernel_rfl) (fun _ _ _ h => h) (Or.inl ⟨by rfl, ?_⟩) hHeld_6 ?_
          rotate_left
          · (intro w hSw; (try dsimp only at hSw); go_simp; try with_reducible rfl)
          try simp only [Act.put, List.setIfInBounds_toArray, List.set_cons_zero, List.set_cons_succ]
          refine wpAnyH_done (by kernel_rfl) ?_ _
          clear ST
          have BY : Hid (Below w14.heap.size w14 v1w) := HX.out _ B_v1w.out
          clear SS HX HM
          go_wp2
          go_roundw
          case rel => exact ⟨j + 1, by omega, by go_num, BY.out⟩
          case measure => simp [intOf]; omega
        · have n1 : ¬ (j : Int) < (qn : Int) := by omega
          go_wp2_with fail
          clear hj hlt n1
          go_loopw [10] (fun i wx => ∃ j : Nat, j ≤ qu ∧ i = .int .i64 j ∧ Hid (Below w14.heap.size w14 wx)) (fun i _ => qu - (intOf i).toNat)
          case atStart => exact ⟨0, Nat.zero_le _, rfl, BX.out⟩
          case round =>
            clear BX
            obtain ⟨j, hj, rfl, BX⟩ := hrel
            by_cases hlt : j < qu
            · have n1 : (j : Int) < (qu : Int) := by omega
              obtain ⟨⟨x, y⟩, hx⟩ : ∃ x, mu[j]? = some x := ⟨mu[j]'(by rw [Qu.out]; exact hlt), List.getElem?_eq_getElem _⟩
              obtain ⟨b1, o1, rfl, c1, d1⟩ := Pu.out wr BX.out j _ hx
              have HM : Hid ((x, y) ∈ mu) := List.mem_of_getElem? hx
              have HX : Hid (∀ w', Below wr.drew.heap.size wr.drew w' → Below w14.heap.size w14 w') := fun w' h => BX.out.trans (below_of_drew h BX.out.size)
              have SS : Hid (∀ w', Below wr.drew.heap.size wr.drew w' → w'.cell? ⟨B, 0, none⟩ = some (.slice aA nA cA) ∧ w'.cell? ⟨B, 1, none⟩ = some (.slice aB nB cB) ∧ w'.cell? ⟨b1, o1 + j * 2, none⟩ = some (.int .i64 x) ∧ w'.cell? ⟨b1, o1 + j * 2 + 1, none⟩ = some (.int .i64 y)) := fun w' h => by
                obtain ⟨b2, o2, e2, c2, d2⟩ := Pu.out w' (HX.out w' h) j _ hx
                cases e2
                exact ⟨(KS.out w' (HX.out w' h)).1, (KS.out w' (HX.out w' h)).2.1, c2, d2⟩
              have B_W9 : Hid (Below wr.drew.heap.size wr.drew wr.drew) := Below.refl _ _
              clear hx c1 d1
              go_wp2_with fail
              rcases hst : standsL lA (x, y)
              · have ST : Hid (standsL lA (x, y) = false) := hst
                clear hst
                have ST2 : Hid (standsL lB (x, y) = true) := by have h := stands_of Nu.out HM.out; rw [stands_append, ST.out, Bool.false_or] at h; exact h
                refine wp_region_held_drew (S := fun w' => w'.cell? ⟨B, 0, none⟩ = some (.slice aA nA cA) ∧ w'.cell? ⟨B, 1, none⟩ = some (.slice aB nB cB) ∧ w'.cell? ⟨b1, o1 + j * 2, none⟩ = some (.int .i64 x) ∧ w'.cell? ⟨b1, o1 + j * 2 + 1, none⟩ = some (.int .i64 y)) (by kernel_rfl) ?_ (fun hHeld => ?_)
                · exact SS.out _ (Below.refl _ _)
                refine wpAnyH_take (i := 0) (oi := { dst := some 166, op := Op.fieldAddr 27 (Operand.tmp 1) 0, type := 0, pos := "outright.go:63", after := #[], guard := none }) (v := ?_) rfl (by kernel_rfl) (by kernel_rfl) (by kernel_rfl) (fun _ _ _ h => h) (Or.inl ⟨by rfl, ?_⟩) hHeld ?_
                rotate_left
                · (intro w hSw; (try dsimp only at hSw); go_simp; try with_reducible rfl)
                try simp only [Act.put, List.setIfInBounds_toArray, List.set_cons_zero, List.set_cons_succ]
                refine wpAnyH_take (i := 1) (oi := { dst := some 167, op := Op.load 22 (Operand.tmp 166), type := 22, pos := "outright.go:63", after := #[{ on := 0, ground := Ground.data }], guard := none }) (v := ?_) rfl (by kernel_rfl) (by kernel_rfl) (by kernel_rfl) (fun _ _ _ h => h) (Or.inl ⟨by rfl, ?_⟩) hHeld ?_
                rotate_left
                · (intro w hSw; (try dsimp only at hSw); go_simp; try with_reducible rfl)
                try simp only [Act.put, List.setIfInBounds_toArray, List.set_cons_zero, List.set_cons_succ]
                refine wpAnyH_take (i := 2) (oi := { dst := some 168, op := Op.move (Operand.tmp 4), type := 22, pos := "outright.go:63", after := #[], guard := none }) (v := ?_) rfl (by kernel_rfl) (by kernel_rfl) (by kernel_rfl) (fun _ _ _ h => h) (Or.inl ⟨by rfl, ?_⟩) hHeld ?_
                rotate_left
                · (intro w hSw; (try dsimp only at hSw); go_simp; try with_reducible rfl)
                try simp only [Act.put, List.setIfInBounds_toArray, List.set_cons_zero, List.set_cons_succ]
                refine wpAnyH_take (i := 3) (oi := { dst := some 169, op := Op.move (Operand.tmp 10), type := 3, pos := "outright.go:63", after := #[], guard := none }) (v := ?_) rfl (by kernel_rfl) (by kernel_rfl) (by kernel_rfl) (fun _ _ _ h => h) (Or.inl ⟨by rfl, ?_⟩) hHeld ?_
                rotate_left
                · (intro w hSw; (try dsimp only at hSw); go_simp; try with_reducible rfl)
                try simp only [Act.put, List.setIfInBounds_toArray, List.set_cons_zero, List.set_cons_succ]
                refine wpAnyH_take (i := 4) (oi := { dst := some 170, op := Op.indexAddr 22 (Operand.tmp 168) (Operand.tmp 169), type := 0, pos := "outright.go:63", after := #[{ on := 2, ground := Ground.data }, { on := 3, ground := Ground.data }], guard := none }) (v := ?_) rfl (by kernel_rfl) (by kernel_rfl) (by kernel_rfl) (fun _ _ _ h => h) (Or.inl ⟨by rfl, ?_⟩) hHeld ?_
                rotate_left
                · (intro w hSw; (try dsimp only at hSw); go_simp; try with_reducible rfl)
                try simp only [Act.put, List.setIfInBounds_toArray, List.set_cons_zero, List.set_cons_succ]
                refine wpAnyH_take (i := 5) (oi := { dst := some 171, op := Op.load 24 (Operand.tmp 170), type := 24, pos := "outright.go:63", after := #[{ on := 4, ground := Ground.data }], guard := none }) (v := ?_) rfl (by kernel_rfl) (by kernel_rfl) (by kernel_rfl) (fun _ _ _ h => h) (Or.inl ⟨by rfl, ?_⟩) hHeld ?_
                rotate_left
                · (intro w hSw; (try dsimp only at hSw); go_simp; try with_reducible rfl)
                try simp only [Act.put, List.setIfInBounds_toArray, List.set_cons_zero, List.set_cons_succ]
                refine wpAnyH_ready (rs := [6]) (by kernel_rfl) (by simp) ?_
                refine AllReadyH.cons (o := { dst := some 172, op := Op.call { callee := Callee.value (Operand.func 11), args := #[Operand.tmp 167, Operand.tmp 171], argTypes := #[22, 24] }, type := 4, pos := "outright.go:63", after := #[{ on := 1, ground := Ground.data }, { on := 5, ground := Ground.data }], guard := none }) rfl (fun K hK => ?_) AllReadyH.nil
                have CN : Hid _ := stands_any wr.drew aA cA nA lA (x, y) LA.out (by omega) (PA.out _ (HX.out _ B_W9.out))
                rw [ST.out] at CN
                unfold encP at CN
                go_simp
                go_at_call 11
                refine Calls.mono CN.out ?_
                rintro e v1w ⟨rfl, hb⟩
                have B_v1w : Hid (Below wr.drew.heap.size wr.drew v1w) := B_W9.out.trans (hb.mono B_W9.out.size)
                clear CN hb
                try go_wp2_with fail
                refine hK.out _ _ ?_ (fun hHeld_6 => ?_)
                · exact SS.out _ B_v1w.out
                clear hK K
                try simp only [Act.put, List.setIfInBounds_toArray, List.set_cons_zero, List.set_cons_succ]
                refine wpAnyH_take (i := 7) (oi := { dst := some 173, op := Op.unOp UnOp.not 4 (Operand.tmp 172), type := 4, pos := "outright.go:63", after := #[{ on := 6, ground := Ground.data }], guard := none }) (v := ?_) rfl (by kernel_rfl) (by kernel_rfl) (by kernel_rfl) (fun _ _ _ h => h) (Or.inl ⟨by rfl, ?_⟩) hHeld_6 ?_
                rotate_left
                · (intro w hSw; (try dsimp only at hSw); go_simp; try with_reducible rfl)
                try simp only [Act.put, List.setIfInBounds_toArray, List.set_cons_zero, List.set_cons_succ]
                refine wpAnyH_take (i := 8) (oi := { dst := some 174, op := Op.move (Operand.tmp 173), type := 4, pos := "outright.go:63", after := #[{ on := 7, ground := Ground.data }, { on := 6, ground := Ground.chain }], guard := none }) (v := ?_) rfl (by kernel_rfl) (by kernel_rfl) (by kernel_rfl) (fun _ _ _ h => h) (Or.inl ⟨by rfl, ?_⟩) hHeld_6 ?_
                rotate_left
                · (intro w hSw; (try dsimp only at hSw); go_simp; try with_reducible rfl)
                try simp only [Act.put, List.setIfInBounds_toArray, List.set_cons_zero, List.set_cons_succ]
                refine wpAnyH_take (i := 9) (oi := { dst := some 175, op := Op.fieldAddr 27 (Operand.tmp 1) 1, type := 0, pos := "outright.go:63", after := #[{ on := 8, ground := Ground.guard }], guard := some (8, true) }) (v := ?_) rfl (by kernel_rfl) (by kernel_rfl) (by kernel_rfl) (fun _ _ _ h => h) (Or.inl ⟨by rfl, ?_⟩) hHeld_6 ?_
                rotate_left
                · (intro w hSw; (try dsimp only at hSw); go_simp; try with_reducible rfl)
                try simp only [Act.put, List.setIfInBounds_toArray, List.set_cons_zero, List.set_cons_succ]
                refine wpAnyH_take (i := 10) (oi := { dst := some 176, op := Op.load 22 (Operand.tmp 175), type := 22, pos := "outright.go:63", after := #[{ on := 9, ground := Ground.data }, { on := 8, ground := Ground.guard }], guard := some (8, true) }) (v := ?_) rfl (by kernel_rfl) (by kernel_rfl) (by kernel_rfl) (fun _ _ _ h => h) (Or.inl ⟨by rfl, ?_⟩) hHeld_6 ?_
                rotate_left
                · (intro w hSw; (try dsimp only at hSw); go_simp; try with_reducible rfl)
                try simp only [Act.put, List.setIfInBounds_toArray, List.set_cons_zero, List.set_cons_succ]
                refine wpAnyH_take (i := 11) (oi := { dst := some 177, op := Op.move (Operand.tmp 4), type := 22, pos := "outright.go:63", after := #[{ on := 8, ground := Ground.guard }], guard := some (8, true) }) (v := ?_) rfl (by kernel_rfl) (by kernel_rfl) (by kernel_rfl) (fun _ _ _ h => h) (Or.inl ⟨by rfl, ?_⟩) hHeld_6 ?_
                rotate_left
                · (intro w hSw; (try dsimp only at hSw); go_simp; try with_reducible rfl)
                try simp only [Act.put, List.setIfInBounds_toArray, List.set_cons_zero, List.set_cons_succ]
                refine wpAnyH_take (i := 12) (oi := { dst := some 178, op := Op.move (Operand.tmp 10), type := 3, pos := "outright.go:63", after := #[{ on := 8, ground := Ground.guard }], guard := some (8, true) }) (v := ?_) rfl (by kernel_rfl) (by kernel_rfl) (by kernel_rfl) (fun _ _ _ h => h) (Or.inl ⟨by rfl, ?_⟩) hHeld_6 ?_
                rotate_left
                · (intro w hSw; (try dsimp only at hSw); go_simp; try with_reducible rfl)
                try simp only [Act.put, List.setIfInBounds_toArray, List.set_cons_zero, List.set_cons_succ]
                refine wpAnyH_take (i := 13) (oi := { dst := some 179, op := Op.indexAddr 22 (Operand.tmp 177) (Operand.tmp 178), type := 0, pos := "outright.go:63", after := #[{ on := 11, ground := Ground.data }, { on := 12, ground := Ground.data }, { on := 8, ground := Ground.guard }], guard := some (8, true) }) (v := ?_) rfl (by kernel_rfl) (by kernel_rfl) (by kernel_rfl) (fun _ _ _ h => h) (Or.inl ⟨by rfl, ?_⟩) hHeld_6 ?_
                rotate_left
                · (intro w hSw; (try dsimp only at hSw); go_simp; try with_reducible rfl)
                try simp only [Act.put, List.setIfInBounds_toArray, List.set_cons_zero, List.set_cons_succ]
                refine wpAnyH_take (i := 14) (oi := { dst := some 180, op := Op.load 24 (Operand.tmp 179), type := 24, pos := "outright.go:63", after := #[{ on := 13, ground := Ground.data }, { on := 8, ground := Ground.guard }], guard := some (8, true) }) (v := ?_) rfl (by kernel_rfl) (by kernel_rfl) (by kernel_rfl) (fun _ _ _ h => h) (Or.inl ⟨by rfl, ?_⟩) hHeld_6 ?_
                rotate_left
                · (intro w hSw; (try dsimp only at hSw); go_simp; try with_reducible rfl)
                try simp only [Act.put, List.setIfInBounds_toArray, List.set_cons_zero, List.set_cons_succ]
                refine wpAnyH_ready (rs := [15]) (by kernel_rfl) (by simp) ?_
                refine AllReadyH.cons (o := { dst := some 181, op := Op.call { callee := Callee.value (Operand.func 11), args := #[Operand.tmp 176, Operand.tmp 180], argTypes := #[22, 24] }, type := 4, pos := "outright.go:63", after := #[{ on := 10, ground := Ground.data }, { on := 14, ground := Ground.data }, { on := 8, ground := Ground.chain }, { on := 8, ground := Ground.guard }], guard := some (8, true) }) rfl (fun K hK => ?_) AllReadyH.nil
                have CN : Hid _ := stands_any v1w aB cB nB lB (x, y) LB.out (by omega) (PB.out _ (HX.out _ B_v1w.out))
                rw [ST2.out] at CN
                unfold encP at CN
                go_simp
                go_at_call 11
                refine Calls.mono CN.out ?_
                rintro e v2w ⟨rfl, hb⟩
                have B_v2w : Hid (Below wr.drew.heap.size wr.drew v2w) := B_v1w.out.trans (hb.mono B_v1w.out.size)
                clear CN hb
                try go_wp2_with fail
                refine hK.out _ _ ?_ (fun hHeld_15 => ?_)
                · exact SS.out _ B_v2w.out
                clear hK K
                try simp only [Act.put, List.setIfInBounds_toArray, List.set_cons_zero, List.set_cons_succ]
                refine wpAnyH_take (i := 16) (oi := { dst := some 182, op := Op.unOp UnOp.not 4 (Operand.tmp 181), type := 4, pos := "outright.go:63", after := #[{ on := 15, ground := Ground.data }, { on := 8, ground := Ground.guard }], guard := some (8, true) }) (v := ?_) rfl (by kernel_rfl) (by kernel_rfl) (by kernel_rfl) (fun _ _ _ h => h) (Or.inl ⟨by rfl, ?_⟩) hHeld_15 ?_
                rotate_left
                · (intro w hSw; (try dsimp only at hSw); go_simp; try with_reducible rfl)
                try simp only [Act.put, List.setIfInBounds_toArray, List.set_cons_zero, List.set_cons_succ]
                refine wpAnyH_take (i := 17) (oi := { dst := some 183, op := Op.pick (Operand.tmp 174) (Operand.tmp 182) (Operand.const (Value.bool false)), type := 4, pos := "outright.go:63", after := #[{ on := 8, ground := Ground.data }, { on := 16, ground := Ground.data }], guard := none }) (v := ?_) rfl (by kernel_rfl) (by kernel_rfl) (by kernel_rfl) (fun _ _ _ h => h) (Or.inl ⟨by rfl, ?_⟩) hHeld_15 ?_
                rotate_left
                · (intro w hSw; (try dsimp only at hSw); go_simp; try with_reducible rfl)
                try simp only [Act.put, List.setIfInBounds_toArray, List.set_cons_zero, List.set_cons_succ]
                refine wpAnyH_done (by kernel_rfl) ?_ _
                clear ST ST2
                have BY : Hid (Below w14.heap.size w14 v2w) := HX.out _ B_v2w.out
                clear SS HX HM
                go_wp2
                go_roundw
                case rel => exact ⟨j + 1, by omega, by go_num, BY.out⟩
                case measure => simp [intOf]; omega
              · have ST : Hid (standsL lA (x, y) = true) := hst
                clear hst
                refine wp_region_held_drew (S := fun w' => w'.cell? ⟨B, 0, none⟩ = some (.slice aA nA cA) ∧ w'.cell? ⟨B, 1, none⟩ = some (.slice aB nB cB) ∧ w'.cell? ⟨b1, o1 + j * 2, none⟩ = some (.int .i64 x) ∧ w'.cell? ⟨b1, o1 + j * 2 + 1, none⟩ = some (.int .i64 y)) (by kernel_rfl) ?_ (fun hHeld => ?_)
                · exact SS.out _ (Below.refl _ _)
                refine wpAnyH_take (i := 0) (oi := { dst := some 166, op := Op.fieldAddr 27 (Operand.tmp 1) 0, type := 0, pos := "outright.go:63", after := #[], guard := none }) (v := ?_) rfl (by kernel_rfl) (by kernel_rfl) (by kernel_rfl) (fun _ _ _ h => h) (Or.inl ⟨by rfl, ?_⟩) hHeld ?_
                rotate_left
                · (intro w hSw; (try dsimp only at hSw); go_simp; try with_reducible rfl)
                try simp only [Act.put, List.setIfInBounds_toArray, List.set_cons_zero, List.set_cons_succ]
                refine wpAnyH_take (i := 1) (oi := { dst := some 167, op := Op.load 22 (Operand.tmp 166), type := 22, pos := "outright.go:63", after := #[{ on := 0, ground := Ground.data }], guard := none }) (v := ?_) rfl (by kernel_rfl) (by kernel_rfl) (by kernel_rfl) (fun _ _ _ h => h) (Or.inl ⟨by rfl, ?_⟩) hHeld ?_
                rotate_left
                · (intro w hSw; (try dsimp only at hSw); go_simp; try with_reducible rfl)
                try simp only [Act.put, List.setIfInBounds_toArray, List.set_cons_zero, List.set_cons_succ]
                refine wpAnyH_take (i := 2) (oi := { dst := some 168, op := Op.move (Operand.tmp 4), type := 22, pos := "outright.go:63", after := #[], guard := none }) (v := ?_) rfl (by kernel_rfl) (by kernel_rfl) (by kernel_rfl) (fun _ _ _ h => h) (Or.inl ⟨by rfl, ?_⟩) hHeld ?_
                rotate_left
                · (intro w hSw; (try dsimp only at hSw); go_simp; try with_reducible rfl)
                try simp only [Act.put, List.setIfInBounds_toArray, List.set_cons_zero, List.set_cons_succ]
                refine wpAnyH_take (i := 3) (oi := { dst := some 169, op := Op.move (Operand.tmp 10), type := 3, pos := "outright.go:63", after := #[], guard := none }) (v := ?_) rfl (by kernel_rfl) (by kernel_rfl) (by kernel_rfl) (fun _ _ _ h => h) (Or.inl ⟨by rfl, ?_⟩) hHeld ?_
                rotate_left
                · (intro w hSw; (try dsimp only at hSw); go_simp; try with_reducible rfl)
                try simp only [Act.put, List.setIfInBounds_toArray, List.set_cons_zero, List.set_cons_succ]
                refine wpAnyH_take (i := 4) (oi := { dst := some 170, op := Op.indexAddr 22 (Operand.tmp 168) (Operand.tmp 169), type := 0, pos := "outright.go:63", after := #[{ on := 2, ground := Ground.data }, { on := 3, ground := Ground.data }], guard := none }) (v := ?_) rfl (by kernel_rfl) (by kernel_rfl) (by kernel_rfl) (fun _ _ _ h => h) (Or.inl ⟨by rfl, ?_⟩) hHeld ?_
                rotate_left
                · (intro w hSw; (try dsimp only at hSw); go_simp; try with_reducible rfl)
                try simp only [Act.put, List.setIfInBounds_toArray, List.set_cons_zero, List.set_cons_succ]
                refine wpAnyH_take (i := 5) (oi := { dst := some 171, op := Op.load 24 (Operand.tmp 170), type := 24, pos := "outright.go:63", after := #[{ on := 4, ground := Ground.data }], guard := none }) (v := ?_) rfl (by kernel_rfl) (by kernel_rfl) (by kernel_rfl) (fun _ _ _ h => h) (Or.inl ⟨by rfl, ?_⟩) hHeld ?_
                rotate_left
                · (intro w hSw; (try dsimp only at hSw); go_simp; try with_reducible rfl)
                try simp only [Act.put, List.setIfInBounds_toArray, List.set_cons_zero, List.set_cons_succ]
                refine wpAnyH_ready (rs := [6]) (by kernel_rfl) (by simp) ?_
                refine AllReadyH.cons (o := { dst := some 172, op := Op.call { callee := Callee.value (Operand.func 11), args := #[Operand.tmp 167, Operand.tmp 171], argTypes := #[22, 24] }, type := 4, pos := "outright.go:63", after := #[{ on := 1, ground := Ground.data }, { on := 5, ground := Ground.data }], guard := none }) rfl (fun K hK => ?_) AllReadyH.nil
                have CN : Hid _ := stands_any wr.drew aA cA nA lA (x, y) LA.out (by omega) (PA.out _ (HX.out _ B_W9.out))
                rw [ST.out] at CN
                unfold encP at CN
                go_simp
                go_at_call 11
                refine Calls.mono CN.out ?_
                rintro e v1w ⟨rfl, hb⟩
                have B_v1w : Hid (Below wr.drew.heap.size wr.drew v1w) := B_W9.out.trans (hb.mono B_W9.out.size)
                clear CN hb
                try go_wp2_with fail
                refine hK.out _ _ ?_ (fun hHeld_6 => ?_)
                · exact SS.out _ B_v1w.out
                clear hK K
                try simp only [Act.put, List.setIfInBounds_toArray, List.set_cons_zero, List.set_cons_succ]
                refine wpAnyH_take (i := 7) (oi := { dst := some 173, op := Op.unOp UnOp.not 4 (Operand.tmp 172), type := 4, pos := "outright.go:63", after := #[{ on := 6, ground := Ground.data }], guard := none }) (v := ?_) rfl (by kernel_rfl) (by kernel_rfl) (by kernel_rfl) (fun _ _ _ h => h) (Or.inl ⟨by rfl, ?_⟩) hHeld_6 ?_
                rotate_left
                · (intro w hSw; (try dsimp only at hSw); go_simp; try with_reducible rfl)
                try simp only [Act.put, List.setIfInBounds_toArray, List.set_cons_zero, List.set_cons_succ]
                refine wpAnyH_take (i := 8) (oi := { dst := some 174, op := Op.move (Operand.tmp 173), type := 4, pos := "outright.go:63", after := #[{ on := 7, ground := Ground.data }, { on := 6, ground := Ground.chain }], guard := none }) (v := ?_) rfl (by kernel_rfl) (by kernel_rfl) (by kernel_rfl) (fun _ _ _ h => h) (Or.inl ⟨by rfl, ?_⟩) hHeld_6 ?_
                rotate_left
                · (intro w hSw; (try dsimp only at hSw); go_simp; try with_reducible rfl)
                try simp only [Act.put, List.setIfInBounds_toArray, List.set_cons_zero, List.set_cons_succ]
                refine wpAnyH_take (i := 9) (oi := { dst := some 175, op := Op.fieldAddr 27 (Operand.tmp 1) 1, type := 0, pos := "outright.go:63", after := #[{ on := 8, ground := Ground.guard }], guard := some (8, true) }) (v := undef) rfl (by kernel_rfl) (by kernel_rfl) (by kernel_rfl) (fun _ _ _ h => h) (Or.inr ⟨by rfl, rfl⟩) hHeld_6 ?_
                try simp only [Act.put, List.setIfInBounds_toArray, List.set_cons_zero, List.set_cons_succ]
                refine wpAnyH_take (i := 10) (oi := { dst := some 176, op := Op.load 22 (Operand.tmp 175), type := 22, pos := "outright.go:63", after := #[{ on := 9, ground := Ground.data }, { on := 8, ground := Ground.guard }], guard := some (8, true) }) (v := undef) rfl (by kernel_rfl) (by kernel_rfl) (by kernel_rfl) (fun _ _ _ h => h) (Or.inr ⟨by rfl, rfl⟩) hHeld_6 ?_
                try simp only [Act.put, List.setIfInBounds_toArray, List.set_cons_zero, List.set_cons_succ]
                refine wpAnyH_take (i := 11) (oi := { dst := some 177, op := Op.move (Operand.tmp 4), type := 22, pos := "outright.go:63", after := #[{ on := 8, ground := Ground.guard }], guard := some (8, true) }) (v := undef) rfl (by kernel_rfl) (by kernel_rfl) (by kernel_rfl) (fun _ _ _ h => h) (Or.inr ⟨by rfl, rfl⟩) hHeld_6 ?_
                try simp only [Act.put, List.setIfInBounds_toArray, List.set_cons_zero, List.set_cons_succ]
                refine wpAnyH_take (i := 12) (oi := { dst := some 178, op := Op.move (Operand.tmp 10), type := 3, pos := "outright.go:63", after := #[{ on := 8, ground := Ground.guard }], guard := some (8, true) }) (v := undef) rfl (by kernel_rfl) (by kernel_rfl) (by kernel_rfl) (fun _ _ _ h => h) (Or.inr ⟨by rfl, rfl⟩) hHeld_6 ?_
                try simp only [Act.put, List.setIfInBounds_toArray, List.set_cons_zero, List.set_cons_succ]
                refine wpAnyH_take (i := 13) (oi := { dst := some 179, op := Op.indexAddr 22 (Operand.tmp 177) (Operand.tmp 178), type := 0, pos := "outright.go:63", after := #[{ on := 11, ground := Ground.data }, { on := 12, ground := Ground.data }, { on := 8, ground := Ground.guard }], guard := some (8, true) }) (v := undef) rfl (by kernel_rfl) (by kernel_rfl) (by kernel_rfl) (fun _ _ _ h => h) (Or.inr ⟨by rfl, rfl⟩) hHeld_6 ?_
                try simp only [Act.put, List.setIfInBounds_toArray, List.set_cons_zero, List.set_cons_succ]
                refine wpAnyH_take (i := 14) (oi := { dst := some 180, op := Op.load 24 (Operand.tmp 179), type := 24, pos := "outright.go:63", after := #[{ on := 13, ground := Ground.data }, { on := 8, ground := Ground.guard }], guard := some (8, true) }) (v := undef) rfl (by kernel_rfl) (by kernel_rfl) (by kernel_rfl) (fun _ _ _ h => h) (Or.inr ⟨by rfl, rfl⟩) hHeld_6 ?_
                try simp only [Act.put, List.setIfInBounds_toArray, List.set_cons_zero, List.set_cons_succ]
                refine wpAnyH_take (i := 15) (oi := { dst := some 181, op := Op.call { callee := Callee.value (Operand.func 11), args := #[Operand.tmp 176, Operand.tmp 180], argTypes := #[22, 24] }, type := 4, pos := "outright.go:63", after := #[{ on := 10, ground := Ground.data }, { on := 14, ground := Ground.data }, { on := 8, ground := Ground.chain }, { on := 8, ground := Ground.guard }], guard := some (8, true) }) (v := undef) rfl (by kernel_rfl) (by kernel_rfl) (by kernel_rfl) (fun _ _ _ h => h) (Or.inr ⟨by rfl, rfl⟩) hHeld_6 ?_
                try simp only [Act.put, List.setIfInBounds_toArray, List.set_cons_zero, List.set_cons_succ]
                refine wpAnyH_take (i := 16) (oi := { dst := some 182, op := Op.unOp UnOp.not 4 (Operand.tmp 181), type := 4, pos := "outright.go:63", after := #[{ on := 15, ground := Ground.data }, { on := 8, ground := Ground.guard }], guard := some (8, true) }) (v := undef) rfl (by kernel_rfl) (by kernel_rfl) (by kernel_rfl) (fun _ _ _ h => h) (Or.inr ⟨by rfl, rfl⟩) hHeld_6 ?_
                try simp only [Act.put, List.setIfInBounds_toArray, List.set_cons_zero, List.set_cons_succ]
                refine wpAnyH_take (i := 17) (oi := { dst := some 183, op := Op.pick (Operand.tmp 174) (Operand.tmp 182) (Operand.const (Value.bool false)), type := 4, pos := "outright.go:63", after := #[{ on := 8, ground := Ground.data }, { on := 16, ground := Ground.data }], guard := none }) (v := ?_) rfl (by kernel_rfl) (by kernel_rfl) (by kernel_rfl) (fun _ _ _ h => h) (Or.inl ⟨by rfl, ?_⟩) hHeld_6 ?_
                rotate_left
                · (intro w hSw; (try dsimp only at hSw); go_simp; try with_reducible rfl)
                try simp only [Act.put, List.setIfInBounds_toArray, List.set_cons_zero, List.set_cons_succ]
                refine wpAnyH_done (by kernel_rfl) ?_ _
                clear ST
                have BY : Hid (Below w14.heap.size w14 v1w) := HX.out _ B_v1w.out
                clear SS HX HM
                go_wp2
                go_roundw
                case rel => exact ⟨j + 1, by omega, by go_num, BY.out⟩
                case measure => simp [intOf]; omega
            · have n1 : ¬ (j : Int) < (qu : Int) := by omega
              go_wp2_with fail
              clear hj hlt n1
              obtain ⟨rr, hrr⟩ : ∃ rr, hasP lA (p0, p1) = rr := ⟨_, rfl⟩
              have ST : Hid (hasP lA (p0, p1) = rr) := hrr
              have ST2 : Hid (standsL lA (p0, p1) = rr) := (stands_has lA (p0, p1)).trans hrr
              clear hrr
              have HX : Hid (∀ w', Below wr.drew.heap.size wr.drew w' → Below w14.heap.size w14 w') := fun w' h => BX.out.trans (below_of_drew h BX.out.size)
              have SS : Hid (∀ w', Below wr.drew.heap.size wr.drew w' → w'.cell? ⟨B, 0, none⟩ = some (.slice aA nA cA) ∧ w'.cell? ⟨B, 2, none⟩ = some (.int .i64 p0) ∧ w'.cell? ⟨B, 3, none⟩ = some (.int .i64 p1)) := fun w' h => ⟨(KS.out w' (HX.out w' h)).1, (KS.out w' (HX.out w' h)).2.2.1, (KS.out w' (HX.out w' h)).2.2.2.1⟩
              have B_W9 : Hid (Below wr.drew.heap.size wr.drew wr.drew) := Below.refl _ _
              refine wp_region_held_drew (S := fun w' => w'.cell? ⟨B, 0, none⟩ = some (.slice aA nA cA) ∧ w'.cell? ⟨B, 2, none⟩ = some (.int .i64 p0) ∧ w'.cell? ⟨B, 3, none⟩ = some (.int .i64 p1)) (by kernel_rfl) ?_ (fun hHeld => ?_)
              · exact SS.out _ (Below.refl _ _)
              refine wpAnyH_take (i := 0) (oi := { dst := some 184, op := Op.fieldAddr 27 (Operand.tmp 1) 0, type := 0, pos := "outright.go:67", after := #[], guard := none }) (v := ?_) rfl (by kernel_rfl) (by kernel_rfl) (by kernel_rfl) (fun _ _ _ h => h) (Or.inl ⟨by rfl, ?_⟩) hHeld ?_
              rotate_left
              · (intro w hSw; (try dsimp only at hSw); go_simp; try with_reducible rfl)
              try simp only [Act.put, List.setIfInBounds_toArray, List.set_cons_zero, List.set_cons_succ]
              refine wpAnyH_take (i := 1) (oi := { dst := some 185, op := Op.load 22 (Operand.tmp 184), type := 22, pos := "outright.go:67", after := #[{ on := 0, ground := Ground.data }], guard := none }) (v := ?_) rfl (by kernel_rfl) (by kernel_rfl) (by kernel_rfl) (fun _ _ _ h => h) (Or.inl ⟨by rfl, ?_⟩) hHeld ?_
              rotate_left
              · (intro w hSw; (try dsimp only at hSw); go_simp; try with_reducible rfl)
              try simp only [Act.put, List.setIfInBounds_toArray, List.set_cons_zero, List.set_cons_succ]
              refine wpAnyH_take (i := 2) (oi := { dst := some 186, op := Op.fieldAddr 27 (Operand.tmp 1) 2, type := 0, pos := "outright.go:67", after := #[], guard := none }) (v := ?_) rfl (by kernel_rfl) (by kernel_rfl) (by kernel_rfl) (fun _ _ _ h => h) (Or.inl ⟨by rfl, ?_⟩) hHeld ?_
              rotate_left
              · (intro w hSw; (try dsimp only at hSw); go_simp; try with_reducible rfl)
              try simp only [Act.put, List.setIfInBounds_toArray, List.set_cons_zero, List.set_cons_succ]
              refine wpAnyH_take (i := 3) (oi := { dst := some 187, op := Op.load 24 (Operand.tmp 186), type := 24, pos := "outright.go:67", after := #[{ on := 2, ground := Ground.data }], guard := none }) (v := ?_) rfl (by kernel_rfl) (by kernel_rfl) (by kernel_rfl) (fun _ _ _ h => h) (Or.inl ⟨by rfl, ?_⟩) hHeld ?_
              rotate_left
              · (intro w hSw; (try dsimp only at hSw); go_simp; try with_reducible rfl)
              try simp only [Act.put, List.setIfInBounds_toArray, List.set_cons_zero, List.set_cons_succ]
              refine wpAnyH_take (i := 5) (oi := { dst := some 189, op := Op.fieldAddr 27 (Operand.tmp 1) 0, type := 0, pos := "outright.go:67", after := #[], guard := none }) (v := ?_) rfl (by kernel_rfl) (by kernel_rfl) (by kernel_rfl) (fun _ _ _ h => h) (Or.inl ⟨by rfl, ?_⟩) hHeld ?_
              rotate_left
              · (intro w hSw; (try dsimp only at hSw); go_simp; try with_reducible rfl)
              try simp only [Act.put, List.setIfInBounds_toArray, List.set_cons_zero, List.set_cons_succ]
              refine wpAnyH_take (i := 6) (oi := { dst := some 190, op := Op.load 22 (Operand.tmp 189), type := 22, pos := "outright.go:67", after := #[{ on := 5, ground := Ground.data }], guard := none }) (v := ?_) rfl (by kernel_rfl) (by kernel_rfl) (by kernel_rfl) (fun _ _ _ h => h) (Or.inl ⟨by rfl, ?_⟩) hHeld ?_
              rotate_left
              · (intro w hSw; (try dsimp only at hSw); go_simp; try with_reducible rfl)
              try simp only [Act.put, List.setIfInBounds_toArray, List.set_cons_zero, List.set_cons_succ]
              refine wpAnyH_take (i := 7) (oi := { dst := some 191, op := Op.fieldAddr 27 (Operand.tmp 1) 2, type := 0, pos := "outright.go:67", after := #[], guard := none }) (v := ?_) rfl (by kernel_rfl) (by kernel_rfl) (by kernel_rfl) (fun _ _ _ h => h) (Or.inl ⟨by rfl, ?_⟩) hHeld ?_
              rotate_left
              · (intro w hSw; (try dsimp only at hSw); go_simp; try with_reducible rfl)
              try simp only [Act.put, List.setIfInBounds_toArray, List.set_cons_zero, List.set_cons_succ]
              refine wpAnyH_take (i := 8) (oi := { dst := some 192, op := Op.load 24 (Operand.tmp 191), type := 24, pos := "outright.go:67", after := #[{ on := 7, ground := Ground.data }], guard := none }) (v := ?_) rfl (by kernel_rfl) (by kernel_rfl) (by kernel_rfl) (fun _ _ _ h => h) (Or.inl ⟨by rfl, ?_⟩) hHeld ?_
              rotate_left
              · (intro w hSw; (try dsimp only at hSw); go_simp; try with_reducible rfl)
              try simp only [Act.put, List.setIfInBounds_toArray, List.set_cons_zero, List.set_cons_succ]
              refine wpAnyH_ready (rs := [4]) (by kernel_rfl) (by simp) ?_
              refine AllReadyH.cons (o := { dst := some 188, op := Op.call { callee := Callee.value (Operand.func 12), args := #[Operand.tmp 185, Operand.tmp 187], argTypes := #[22, 24] }, type := 4, pos := "outright.go:67", after := #[{ on := 1, ground := Ground.data }, { on := 3, ground := Ground.data }], guard := none }) rfl (fun K hK => ?_) AllReadyH.nil
              have CN : Hid _ := has_any wr.drew aA cA nA lA (p0, p1) LA.out (by omega) (PA.out _ (HX.out _ B_W9.out))
              rw [ST.out] at CN
              unfold encP at CN
              go_simp
              go_at_call 12
              refine Calls.mono CN.out ?_
              rintro e v1w ⟨rfl, hb⟩
              have B_v1w : Hid (Below wr.drew.heap.size wr.drew v1w) := B_W9.out.trans (hb.mono B_W9.out.size)
              clear CN hb
              try go_wp2_with fail
              refine hK.out _ _ ?_ (fun hHeld_4 => ?_)
              · exact SS.out _ B_v1w.out
              clear hK K
              try simp only [Act.put, List.setIfInBounds_toArray, List.set_cons_zero, List.set_cons_succ]
              refine wpAnyH_ready (rs := [9]) (by kernel_rfl) (by simp) ?_
              refine AllReadyH.cons (o := { dst := some 193, op := Op.call { callee := Callee.value (Operand.func 11), args := #[Operand.tmp 190, Operand.tmp 192], argTypes := #[22, 24] }, type := 4, pos := "outright.go:67", after := #[{ on := 6, ground := Ground.data }, { on := 8, ground := Ground.data }, { on := 4, ground := Ground.chain }], guard := none }) rfl (fun K hK => ?_) AllReadyH.nil
              have CN : Hid _ := stands_any v1w aA cA nA lA (p0, p1) LA.out (by omega) (PA.out _ (HX.out _ B_v1w.out))
              rw [ST2.out] at CN
              unfold encP at CN
              go_simp
              go_at_call 11
              refine Calls.mono CN.out ?_
              rintro e v2w ⟨rfl, hb⟩
              have B_v2w : Hid (Below wr.drew.heap.size wr.drew v2w) := B_v1w.out.trans (hb.mono B_v1w.out.size)
              clear CN hb
              try go_wp2_with fail
              refine hK.out _ _ ?_ (fun hHeld_9 => ?_)
              · exact SS.out _ B_v2w.out
              clear hK K
              try simp only [Act.put, List.setIfInBounds_toArray, List.set_cons_zero, List.set_cons_succ]
              refine wpAnyH_take (i := 10) (oi := { dst := some 194, op := Op.binOp BinOp.neq 4 (Operand.tmp 188) (Operand.tmp 193) 4, type := 4, pos := "outright.go:67", after := #[{ on := 4, ground := Ground.data }, { on := 9, ground := Ground.data }], guard := none }) (v := ?_) rfl (by kernel_rfl) (by kernel_rfl) (by kernel_rfl) (fun _ _ _ h => h) (Or.inl ⟨by rfl, ?_⟩) hHeld_9 ?_
              rotate_left
              · (intro w hSw; (try dsimp only at hSw); go_simp; try with_reducible rfl)
              try simp only [Act.put, List.setIfInBounds_toArray, List.set_cons_zero, List.set_cons_succ]
              refine wpAnyH_done (by kernel_rfl) ?_ _
              clear ST ST2
              have B30 : Hid (Below w14.heap.size w14 v2w) := HX.out _ B_v2w.out
              obtain ⟨k0, k1, k2, k3, k4⟩ := KS.out _ B30.out
              have CN : Hid _ := all_any v2w aV cV vl nV LV.out (by omega) (PV.out _ B30.out)
              clear SS HX BX
              have hr0 : (rr != rr) = false := bne_self_eq_false rr
              go_wp2_with fail
              refine Calls.mono CN.out ?_
              rintro e w31 ⟨hb, h | h | h⟩
              all_goals have B31 : Hid (Below w14.heap.size w14 w31) := B30.out.trans (hb.mono B30.out.size)
              all_goals clear hb CN k0 k1 k2 k3 k4
              all_goals obtain ⟨k0, k1, k2, k3, k4⟩ := KS.out _ B31.out
              · obtain ⟨h1, rfl⟩ := h
                rw [LV.out] at h1
                have g1 : (512 < nV) = True := by simp; omega
                go_wp2
                go_ret
                exact ⟨rfl, by rw [HBq.out]; exact B1.out.trans (B31.out.mono HBz.out)⟩
              · obtain ⟨h1, h2, rfl⟩ := h
                rw [LV.out] at h1
                have g1 : (512 < nV) = False := by simp; omega
                have CN : Hid _ := twice_any w31 aV cV nV vl LV.out hcV (by omega) (PV.out _ B31.out)
                rw [show dupI vl = true from decide_eq_true h2] at CN
                clear h2
                go_wp2_with fail
                refine Calls.mono CN.out ?_
                rintro e w32 ⟨rfl, hb⟩
                have B32 : Hid (Below w14.heap.size w14 w32) := B31.out.trans (hb.mono B31.out.size)
                clear CN hb
                go_wp2
                go_ret
                exact ⟨rfl, by rw [HBq.out]; exact B1.out.trans (B32.out.mono HBz.out)⟩
              · obtain ⟨h1, h2, v, m, hm, rfl, hr⟩ := h
                rw [LV.out] at h1
                have g1 : (512 < nV) = False := by simp; omega
                have hmm : m.length = nV := by
                  have a1 := hm.len
                  have a2 : ¬ m.length < vl.length := fun g => (once_nodup hm).1 g h2
                  rw [LV.out] at a1 a2
                  omega
                obtain ⟨qa, hqa⟩ : ∃ q, (allP m).length = q := ⟨_, rfl⟩
                have QA : Hid ((allP m).length = qa) := hqa
                have HM : Hid (IsOnce vl m) := hm
                have H2 : Hid vl.Nodup := h2
                have f5 : 2 * qa = nV * (nV - 1) := by rw [← hqa, allP_len, hmm]
                have f6 : nV * (nV - 1) ≤ 512 * 511 := Nat.mul_le_mul h1 (by omega)
                rw [hqa] at hr
                obtain ⟨aa, ca, rfl, _⟩ := own_shape hr
                have PL : Hid (∀ w', Below w31.heap.size w31 w' → PairsAt w' aa (allP m)) := fun w' h => (own_pairs hr).under h
                have UP : Hid (Up (allP m)) := allP_up hm.up
                have LT : Hid (∀ p ∈ allP m, p.1 < p.2) := fun p hp => ((allP_mem hm.up p).1 hp).2.2
                have WF : Hid (∀ p ∈ allP m, wfP p) := fun p hp => ⟨WV.out _ ((hm.mem _).1 ((allP_mem hm.up p).1 hp).1), WV.out _ ((hm.mem _).1 ((allP_mem hm.up p).1 hp).2.1)⟩
                have HX : Hid (∀ w', Below w31.heap.size w31 w' → Below w14.heap.size w14 w') := fun w' h => B31.out.trans (h.mono B31.out.size)
                have CN : Hid _ := twice_any w31 aV cV nV vl LV.out hcV (by omega) (PV.out _ B31.out)
                rw [show dupI vl = false from by unfold dupI; rw [decide_eq_false_iff_not]; exact fun g => g h2] at CN
                have hqb : qa ≤ 130816 := by omega
                have f7 : (nV : Int) * ((nV : Int) - 1) = 2 * (qa : Int) := by
                  rcases Nat.eq_zero_or_pos nV with h0 | h0
                  · subst h0
                    rw [Nat.zero_mul] at f5
                    omega
                  · have : ((2 * qa : Nat) : Int) = ((nV * (nV - 1) : Nat) : Int) := by rw [f5]
                    rw [Int.natCast_mul, Int.natCast_mul, Int.natCast_sub h0] at this
                    exact this.symm
                clear hm h2 hr hqa f5 f6 hmm
                go_wp2_with fail
                refine Calls.mono CN.out ?_
                rintro e w32 ⟨rfl, hb32⟩
                have B32 : Hid (Below w31.heap.size w31 w32) := hb32
                clear CN hb32 k0 k1 k2 k3 k4
                obtain ⟨k0, k1, k2, k3, k4⟩ := KS.out _ (HX.out _ B32.out)
                have CN : Hid _ := ordered_any w32 aa ca qa (allP m) QA.out (by omega) (PL.out _ B32.out) UP.out LT.out
                go_wp2_with fail
                refine Calls.mono CN.out ?_
                rintro e w33 ⟨rfl, dq, hdq⟩
                have B33 : Hid (Below w31.heap.size w31 w33) := by rw [hdq]; exact B32.out.trans ((below_drewN _ _).mono B32.out.size)
                clear CN hdq k0 k1 k2 k3 k4
                obtain ⟨k0, k1, k2, k3, k4⟩ := KS.out _ (HX.out _ B33.out)
                have f8 : IntKind.i64.wrap ((nV : Int) - 1) = (nV : Int) - 1 := IntWalk.i64_in _ (by omega)
                have f9 : IntKind.i64.wrap ((nV : Int) * ((nV : Int) - 1)) = 2 * (qa : Int) := by rw [f7]; exact IntWalk.i64_in _ (by omega)
                have f10 : (2 * (qa : Int)).tdiv 2 = (qa : Int) := by rw [Int.mul_comm]; exact Int.mul_tdiv_cancel _ (by decide)
                have f11 : IntKind.i64.wrap (qa : Int) = (qa : Int) := IntWalk.i64_in _ (by omega)
                have f12 : ((nV : Int)).tdiv 2 = ((nV / 2 : Nat) : Int) := by rw [Int.tdiv_eq_ediv_of_nonneg (by omega)]; omega
                have f13 : IntKind.i64.wrap ((nV / 2 : Nat) : Int) = ((nV / 2 : Nat) : Int) := IntWalk.i64_in _ (by omega)
                clear f7
                go_wp2_with fail
                clear k0 k1 k2 k3 k4
                have TL : Hid ((vl.take (nV / 2)).length = nV / 2) := (slice_to (by omega) LV.out (PV.out _ (HX.out _ B33.out))).2
                have TK : Hid (∀ w', Below w31.heap.size w31 w' → IntsAt w' aV (vl.take (nV / 2))) := fun w' h => (slice_to (by omega) LV.out (PV.out _ (HX.out _ h))).1
                have CN : Hid _ := all_any w33 aV cV (vl.take (nV / 2)) (nV / 2) TL.out (by omega) (TK.out _ B33.out)
                refine Calls.mono CN.out ?_
                rintro e w34 ⟨hb, h | h | h⟩
                · exfalso
                  have h3 := h.1
                  rw [TL.out] at h3
                  omega
                · exact absurd (H2.out.sublist (List.take_sublist _ _)) h.2.1
                obtain ⟨_, _, v, ms, hms, rfl, hr⟩ := h
                have HMS : Hid (IsOnce (vl.take (nV / 2)) ms) := hms
                obtain ⟨qf, hqf⟩ : ∃ q, (allP ms).length = q := ⟨_, rfl⟩
                have QF : Hid ((allP ms).length = qf) := hqf
                have hle : qf ≤ 9223372036854775807 := by rw [← hqf]; exact own_len hr
                rw [hqf] at hr
                obtain ⟨af, cf, rfl, _⟩ := own_shape hr
                have PF : Hid (∀ w', Below w34.heap.size w34 w' → PairsAt w' af (allP ms)) := fun w' h => (own_pairs hr).under h
                have B34 : Hid (Below w31.heap.size w31 w34) := B33.out.trans (hb.mono B33.out.size)
                clear CN hr hqf hms hb
                have CN : Hid _ := only_any w34 aa aV ca cV (allP m) (vl.take (nV / 2)) qa (nV / 2) QA.out TL.out (by omega) (by omega) WF.out (PL.out _ B34.out) (TK.out _ B34.out)
                go_wp2_with fail
                refine Calls.mono CN.out ?_
                rintro e w35 ⟨v, mm, rfl, hN, hr, hb⟩
                have e1 : allP ms = mm := (only_all HM.out HMS.out (fun _ hx => List.mem_of_mem_take hx) hN).symm
                subst e1
                rw [QF.out] at hr
                obtain ⟨az, cz, rfl, _⟩ := own_shape hr
                have B35 : Hid (Below w31.heap.size w31 w35) := B34.out.trans (hb.mono B34.out.size)
                have CN2 : Hid _ := same_eq w35 az af cz cf (allP ms) qf QF.out hle (own_pairs hr) (PF.out _ hb)
                clear CN hN hr hb
                go_wp2_with fail
                refine Calls.mono CN2.out ?_
                rintro e w36 ⟨rfl, dq, hdq⟩
                have B36 : Hid (Below w31.heap.size w31 w36) := by rw [hdq]; exact B35.out.trans ((below_drewN _ _).mono B35.out.size)
                clear CN2 hdq
                obtain ⟨k0, k1, k2, k3, k4⟩ := KS.out _ (HX.out _ B36.out)
                have CN : Hid _ := only_any w36 aa aV ca cV (allP m) vl qa nV QA.out LV.out (by omega) (by omega) WF.out (PL.out _ B36.out) (PV.out _ (HX.out _ B36.out))
                go_wp2_with fail
                refine Calls.mono CN.out ?_
                rintro e w37 ⟨v, mm, rfl, hN, hr, hb⟩
                have e1 : allP m = mm := (only_all HM.out HM.out (fun _ hx => hx) hN).symm
                subst e1
                rw [QA.out] at hr
                obtain ⟨ay, cy, rfl, _⟩ := own_shape hr
                have B37 : Hid (Below w31.heap.size w31 w37) := B36.out.trans (hb.mono B36.out.size)
                have CN2 : Hid _ := same_eq w37 ay aa cy ca (allP m) qa QA.out (by omega) (own_pairs hr) (PL.out _ B37.out)
                clear CN hN hr hb k0 k1 k2 k3 k4
                go_wp2_with fail
                refine Calls.mono CN2.out ?_
                rintro e w38 ⟨rfl, dq, hdq⟩
                have B38 : Hid (Below w14.heap.size w14 w38) := HX.out _ (by rw [hdq]; exact B37.out.trans ((below_drewN _ _).mono B37.out.size))
                clear CN2 hdq
                go_wp2
                go_ret
                exact ⟨rfl, by rw [HBq.out]; exact B1.out.trans (B38.out.mono HBz.out)⟩
end Go.Proofs.Ytjaccgkeldabfaa
