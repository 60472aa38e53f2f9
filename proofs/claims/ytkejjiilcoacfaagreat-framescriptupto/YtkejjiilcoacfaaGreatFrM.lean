/- The variables that a goal and the essential hypotheses have. -/
import Derived.Test.YtkejjiilcoacfaaGreatFrW
namespace Go.Proofs.YtkejjiilcoacfaaGreat
open Go.Maps Go.RowKit Go.WideMaps

/-- The symbols of the essential ones. -/
def essS (l : List HyC) : List Int := l.flatMap fun y => if y.h.fl = true then [] else y.h.ex
theorem essS_take {l : List HyC} {j : Nat} {y : HyC} (h : l[j]? = some y) : essS (l.take (j + 1)) = essS (l.take j) ++ if y.h.fl = true then [] else y.h.ex := by unfold essS; rw [List.take_add_one, h, List.flatMap_append]; simp
theorem essS_append (l m : List HyC) : essS (l ++ m) = essS l ++ essS m := by unfold essS; rw [List.flatMap_append]
theorem essS_le (l : List HyC) (j : Nat) : (essS (l.take j)).length ≤ (essS l).length := by
  conv => rhs; rw [← List.take_append_drop j l, essS_append, List.length_append]
  omega
theorem rowN_append (l m : List Int) : rowN (l ++ m) = rowN l ++ rowN m := by unfold rowN; rw [List.map_append]
theorem rowN_one (l : List Int) : ∀ u ∈ rowN l, u.oneCell' = true := fun u hu => by
  unfold rowN at hu
  obtain ⟨x, _, rfl⟩ := List.mem_map.1 hu
  rfl

set_option maxRecDepth 100000 in
set_option maxHeartbeats 8000000 in
theorem spell_any (w : World) (O : Nat → Prop) (T N : Nat) (x : ScC) (v : Value) (l : List Int) (hx : ScOk O w x) (hc : w.cell? ⟨T, 0, none⟩ = some x.vl) (hN : N ≤ w.heap.size) (hO : ∀ g, O g → g < N) (ht : w.ownsRow N 3 1 v l.length (rowN l)) (hn : x.hs.length ≤ 1048576) (hlen : l.length + (essS x.hs).length ≤ 17592186043904) :
    Calls Tryz.prog 82 #[.pointer (some ⟨T, 0, none⟩), v] w fun e w' => Below N w w' ∧ ∃ v', e = .returned v' ∧ w'.ownsRow N 3 1 v' (l ++ essS x.hs).length (rowN (l ++ essS x.hs)) := by
  obtain ⟨iN, hiN, iNz, iNs, iNb⟩ := info_parts infoNn
  have hl := hx.l
  obtain ⟨al, cl, el, _⟩ := own_shape hl
  rw [el] at hc hl
  obtain ⟨nh, hnh⟩ : ∃ nh, x.hs.length = nh := ⟨_, rfl⟩
  rw [hnh] at hc hl hn
  have HL : Hid (w.ownsRow 0 61 4 (.slice al nh cl) nh (rowHy x.hs) ∧ ∀ g, (Value.slice al nh cl).ownBlock = some g → g < N) := ⟨hl, fun g e => hO g (hx.lo g (by rw [el, hnh]; exact e))⟩
  have HE : Hid (∀ y ∈ x.hs, w.ownsRow 0 3 1 y.ve y.h.ex.length (rowN y.h.ex) ∧ ∀ g, y.ve.ownBlock = some g → g < N) := fun y hy => ⟨(hx.e y hy).1, fun g e => hO g ((hx.e y hy).2 g e)⟩
  have HH : Hid (x.hs.length = nh) := hnh
  have HT : Hid (w.ownsRow N 3 1 v l.length (rowN l)) := ht
  have HN : Hid (N ≤ w.heap.size) := hN
  have HM : Hid (l.length + (essS x.hs).length ≤ 17592186043904) := hlen
  clear hl hnh ht hN hx hO hlen el
  go_enter Tryz.func82, Tryz.ntmps82
  go_wp2_with fail
  go_loopw [1, 12] (fun v1 v12 wx => ∃ (j k : Nat), j ≤ nh ∧ v12 = .int .i64 j ∧ k ≤ 17592186043904 ∧ Hid ((l ++ essS (x.hs.take j)).length = k) ∧ Hid (wx.ownsRow N 3 1 v1 k (rowN (l ++ essS (x.hs.take j)))) ∧ Hid (Below N w wx)) (fun _ v12 _ => nh - (intOf v12).toNat)
  case atStart => exact ⟨0, l.length, Nat.zero_le _, rfl, by have := HM.out; omega, (by show _ = _; have e0 : essS (x.hs.take 0) = [] := rfl; rw [e0, List.append_nil]), (by simp only [List.take_zero]; have : essS [] = [] := rfl; rw [this, List.append_nil]; exact HT.out), Below.refl _ _⟩
  case round =>
    obtain ⟨j, k, hj, rfl, hk, hK, hU, hB⟩ := hrel
    by_cases hlt : j < nh
    · have n1 : (j : Int) < (nh : Int) := by omega
      obtain ⟨y, hy⟩ : ∃ y, x.hs[j]? = some y := ⟨_, List.getElem?_eq_getElem (by rw [HH.out]; exact hlt)⟩
      have hrow : wr.ownsRow 0 61 4 (.slice al nh cl) nh (rowHy x.hs) := M.owns_ch HL.out.1 (ch_under hB.out) fun g e h => by have := HL.out.2 g e; omega
      obtain ⟨g, c', e, _, _, _⟩ := M.own_some hrow (by omega)
      cases e
      obtain ⟨y0, y1, y2, y3⟩ := row_hy hrow j y hy
      obtain ⟨he1, he3⟩ := HE.out y (List.mem_of_getElem? hy)
      have her : wr.ownsRow 0 3 1 y.ve y.h.ex.length (rowN y.h.ex) := M.owns_ch he1 (ch_under hB.out) fun g e h => by have := he3 g e; omega
      obtain ⟨ae, ce, ee, _⟩ := own_shape her
      obtain ⟨ne, hne⟩ : ∃ ne, y.h.ex.length = ne := ⟨_, rfl⟩
      rw [ee, hne] at y3 her
      have WT := essS_take hy
      have hle := essS_le x.hs (j + 1)
      obtain ⟨⟨lab, fl, var, ex⟩, ve⟩ := y
      dsimp only at *
      obtain ⟨wa, hwa⟩ : ∃ wa, wa = wr.alloc (.cells #[.string lab, .bool fl, .int .i64 var, .slice ae ne ce] 61) := ⟨_, rfl⟩
      have HWA : Hid (wa = wr.alloc (.cells #[.string lab, .bool fl, .int .i64 var, .slice ae ne ce] 61)) := hwa
      have ba : Below wr.heap.size wr wa := by rw [hwa]; exact fr_below_alloc _ _
      have hNr : N ≤ wr.heap.size := Nat.le_trans HN.out hB.out.size
      obtain ⟨Bx, hBx⟩ : ∃ Bx, wr.heap.size = Bx := ⟨_, rfl⟩
      have ka : wa.heap[Bx]? = some (.cells #[.string lab, .bool fl, .int .i64 var, .slice ae ne ce] 61 (0, 0)) := by rw [hwa, ← hBx]; exact heap_alloc_new wr _
      have z1 : wa.cell? ⟨Bx, 1, none⟩ = some (.bool fl) := M.cell_whole ka 1
      have z3 : wa.cell? ⟨Bx, 3, none⟩ = some (.slice ae ne ce) := M.cell_whole ka 3
      have BA : Hid (Below N w wa ∧ N ≤ wa.heap.size) := ⟨hB.out.trans (ba.mono hNr), Nat.le_trans hNr ba.size⟩
      have UA : Hid (wa.ownsRow N 3 1 u1 k (rowN (l ++ essS (x.hs.take j)))) := M.owns_ch hU.out (M.Ch.of_below (X := fun _ => False) ba) fun _ _ e => e
      have EA : Hid (wa.ownsRow 0 3 1 (.slice ae ne ce) ne (rowN ex) ∧ (rowN ex).length = ne * 1) := ⟨M.owns_ch her (M.Ch.of_below (X := fun _ => False) ba) (fun _ _ e => e), by unfold rowN; rw [List.length_map, hne]; omega⟩
      have HB : Hid (wr.heap.size = Bx) := hBx
      have LK := HM.out
      have KK := hK.out
      rw [List.length_append] at KK
      clear hrow her ee hwa ba hNr ka he1 he3 hy hBx
      cases fl with
      | true =>
        have E2 : Hid (essS (x.hs.take (j + 1)) = essS (x.hs.take j)) := by show _ = _; rw [WT]; simp
        have U2 : Hid (wa.ownsRow N 3 1 u1 k (rowN (l ++ essS (x.hs.take (j + 1)))) ∧ (l ++ essS (x.hs.take (j + 1))).length = k) := by rw [E2.out]; exact ⟨UA.out, hK.out⟩
        clear WT E2 UA hK KK LK hle EA hne
        go_upto_region 4 with fail
        rw [← HWA.out, HB.out]
        clear HWA y0 y1 y2 y3
        go_wp2
        exact ⟨⟨j + 1, k, by omega, by go_num, by omega, U2.out.2, U2.out.1, BA.out.1⟩, by simp [intOf]; omega⟩
      | false =>
        have E2 : Hid (essS (x.hs.take (j + 1)) = essS (x.hs.take j) ++ ex) := by show _ = _; rw [WT]; simp
        have hkn : k + ne ≤ 17592186043904 := by
          rw [E2.out, List.length_append] at hle
          omega
        have K2 : Hid ((l ++ essS (x.hs.take (j + 1))).length = k + ne) := by show _ = _; rw [E2.out, ← List.append_assoc, List.length_append, hK.out, hne]
        have HF : Hid (rowN (l ++ essS (x.hs.take (j + 1))) = rowN (l ++ essS (x.hs.take j)) ++ rowN ex) := by show _ = _; rw [E2.out, ← List.append_assoc, rowN_append]
        clear WT E2 hK KK LK hle hne
        go_upto_region 4 with fail
        rw [← HWA.out, HB.out]
        clear HWA y0 y1 y2 y3
        go_wp2_with (at_builtin; refine wpList_append_more (w := wa) rfl _ _ 32 rfl N 3 iN _ 1 8 Tryz.underlying32 hiN iNz iNs iNb rfl (by decide) _ k (rowN (l ++ essS (x.hs.take j))) (by rfl) UA.out ae ne ce (rowN ex) (by rfl) EA.out.2 (own_cells EA.out.1) (rowN_one _) (by unfold maxLen; omega) (by omega) BA.out.2 ?_; intro a8 c8 w8 ho8 hb8; have O8 : Hid (w8.ownsRow N 3 1 (.slice a8 (k + ne) c8) (k + ne) (rowN (l ++ essS (x.hs.take (j + 1))))) := (by show World.ownsRow _ _ _ _ _ _ _; rw [HF.out]; exact ho8); have B8 : Hid (Below N w w8) := BA.out.1.trans hb8; clear ho8 hb8)
        exact ⟨⟨j + 1, k + ne, by omega, by go_num, by omega, K2.out, O8.out, B8.out⟩, by simp [intOf]; omega⟩
    · have n1 : ¬ (j : Int) < (nh : Int) := by omega
      have hall : x.hs.take j = x.hs := List.take_of_length_le (by rw [HH.out]; omega)
      have U2 : Hid (wr.ownsRow N 3 1 u1 (l ++ essS x.hs).length (rowN (l ++ essS x.hs))) := by
        have h := hU.out
        have h2 := hK.out
        rw [hall] at h h2
        rw [h2]
        exact h
      clear hall hU hK
      go_wp2
      go_ret
      exact ⟨hB.out, _, rfl, by have h := U2.out; rw [List.length_append] at h; exact h⟩

theorem ess_take {xs : List ScC} {j : Nat} {x : ScC} (h : xs[j]? = some x) : essS (hypsC (xs.take (j + 1))) = essS (hypsC (xs.take j)) ++ essS x.hs := by rw [hyps_take h, essS_append]
theorem ess_le (xs : List ScC) (j : Nat) : (essS (hypsC (xs.take j))).length ≤ (essS (hypsC xs)).length := by
  conv => rhs; rw [← List.take_append_drop j xs]; unfold hypsC; rw [List.flatMap_append, essS_append, List.length_append]
  unfold hypsC
  omega
set_option maxRecDepth 100000 in
set_option maxHeartbeats 8000000 in
theorem mandatory_any (w : World) (O : Nat → Prop) (P : Nat) (vS : Value) (xs : List ScC) (a0 : Option Addr) (n0 c0 : Nat) (goal : List Int) (h : StackAt O w P vS xs) (hn : xs.length ≤ 1048576) (hp : (hypsC xs).length ≤ 1048576) (hg : goal.length = n0) (hA : NsAt w a0 goal) (hlen : goal.length + (essS (hypsC xs)).length ≤ 17592186043904) :
    Calls Tryz.prog 51 #[.pointer (some ⟨P, 0, none⟩), .slice a0 n0 c0] w fun e w' => Below w.heap.size w w' ∧ ∃ a2 c2 m, e = .returned (.slice a2 m.length c2) ∧ NsAt w' a2 m ∧ m.length ≤ c2 ∧ IsVars (goal ++ essS (hypsC xs)) m := by
  have CL : Hid _ := clone_any w a0 n0 c0 goal hg (by omega) hA
  obtain ⟨a, c, rfl, _⟩ := own_shape h.row
  obtain ⟨n, hl⟩ : ∃ n, xs.length = n := ⟨_, rfl⟩
  rw [hl] at hn
  have HL : Hid (xs.length = n) := hl
  have HS : Hid (StackAt O w P (.slice a n c) xs) := by have h' := h; rw [hl] at h'; exact h'
  have HP : Hid ((hypsC xs).length ≤ 1048576 ∧ goal.length + (essS (hypsC xs)).length ≤ 17592186043904 ∧ goal.length = n0) := ⟨hp, hlen, hg⟩
  obtain ⟨N, hN⟩ : ∃ N, w.heap.size = N := ⟨_, rfl⟩
  have HN : Hid (w.heap.size = N) := hN
  rw [hN] at CL ⊢
  clear h hl hp hlen hN hg hA
  go_enter Tryz.func51, Tryz.ntmps51
  go_wp2_with fail
  refine Calls.mono CL.out ?_
  rintro e w1 ⟨v1, rfl, hv1, hb1⟩
  have V1 : Hid (w1.ownsRow N 3 1 v1 n0 (rowN goal)) := hv1
  have B1 : Hid (Below N w w1) := hb1
  have S1 : Hid (StackAt O w1 P (.slice a n c) xs) := HS.out.below (by rw [HN.out]; exact hb1)
  have x1 := S1.out.cells.2
  clear hv1 hb1 CL
  go_wp2_with fail
  go_loopw [5, 15] (fun v5 v15 wx => ∃ (j k : Nat), j ≤ n ∧ v15 = .int .i64 j ∧ Hid ((goal ++ essS (hypsC (xs.take j))).length = k) ∧ Hid (wx.ownsRow N 3 1 v5 k (rowN (goal ++ essS (hypsC (xs.take j))))) ∧ Hid (Below N w wx)) (fun _ v15 _ => n - (intOf v15).toNat)
  case atStart =>
    have e0 : essS (hypsC (xs.take 0)) = [] := rfl
    refine ⟨0, n0, Nat.zero_le _, rfl, ?_, ?_, B1.out⟩
    · show _ = _; rw [e0, List.append_nil]; exact HP.out.2.2
    · show World.ownsRow _ _ _ _ _ _ _; rw [e0, List.append_nil]; exact V1.out
  case round =>
    obtain ⟨j, k, hj, rfl, hK, hU, hB⟩ := hrel
    have B0 : Hid (Below w.heap.size w wr) := by show Below _ _ _; rw [HN.out]; exact hB.out
    by_cases hlt : j < n
    · have n1 : (j : Int) < (n : Int) := by omega
      obtain ⟨x, hx⟩ : ∃ x, xs[j]? = some x := ⟨_, List.getElem?_eq_getElem (by rw [HL.out]; exact hlt)⟩
      have hS := HS.out.below B0.out
      have hrow := hS.row
      rw [HL.out] at hrow
      obtain ⟨g, c', e, _, _, _⟩ := M.own_some hrow (by omega)
      cases e
      obtain ⟨y0, y1, y2⟩ := row_sc hrow j x hx
      obtain ⟨wa, hwa⟩ : ∃ wa, wa = wr.alloc (.cells #[x.vl, .map (some x.mb), x.vp] 83) := ⟨_, rfl⟩
      have ba : Below wr.heap.size wr wa := by rw [hwa]; exact fr_below_alloc _ _
      have ka : wa.heap[wr.heap.size]? = some (.cells #[x.vl, .map (some x.mb), x.vp] 83 (0, 0)) := by rw [hwa]; exact heap_alloc_new wr _
      have BA : Hid (Below N w wa) := hB.out.trans (ba.mono (by have h1 := hB.out.size; have h2 := HN.out; omega))
      have hSa : StackAt O wa P (.slice (some ⟨g, 0, none⟩) n c) xs := HS.out.below (by rw [HN.out]; exact BA.out)
      have hok := hSa.each x (List.mem_of_getElem? hx)
      have UA : wa.ownsRow N 3 1 u5 k (rowN (goal ++ essS (hypsC (xs.take j)))) := M.owns_ch hU.out (M.Ch.of_below (X := fun _ => False) ba) fun _ _ e => e
      have TL : Hid _ := spell_any wa O wr.heap.size N x u5 (goal ++ essS (hypsC (xs.take j))) hok (M.cell_whole ka 0) (by have h1 := BA.out.size; have h2 := HN.out; omega) (fun b hb => by have h1 := HS.out.lt b hb; have h2 := HN.out; omega) (by rw [hK.out]; exact UA) (by
        have h1 := hyps_le xs (j + 1)
        rw [hyps_take hx, List.length_append] at h1
        have h2 := HP.out.1
        omega) (by
        have h1 := ess_le xs (j + 1)
        rw [ess_take hx, List.length_append] at h1
        have h2 := HP.out.2.1
        rw [List.length_append]
        omega)
      have WT : Hid (goal ++ essS (hypsC (xs.take (j + 1))) = goal ++ essS (hypsC (xs.take j)) ++ essS x.hs) := by show _ = _; rw [ess_take hx, List.append_assoc]
      obtain ⟨al, cl, el, _⟩ := own_shape (hS.each x (List.mem_of_getElem? hx)).l
      obtain ⟨ap, cp, ep, _⟩ := own_shape (hS.each x (List.mem_of_getElem? hx)).p
      rw [el] at y0 hwa
      rw [ep] at y2 hwa
      obtain ⟨nh, hnh⟩ : ∃ nh, x.hs.length = nh := ⟨_, rfl⟩
      obtain ⟨np, hnp⟩ : ∃ np, x.ps.length = np := ⟨_, rfl⟩
      obtain ⟨mb, hmb⟩ : ∃ mb, x.mb = mb := ⟨_, rfl⟩
      rw [hnh] at y0 hwa
      rw [hmb] at y1 hwa
      rw [hnp] at y2 hwa
      have HWA : Hid (wa = wr.alloc (.cells #[.slice al nh cl, .map (some mb), .slice ap np cp] 83)) := hwa
      obtain ⟨Bx, hBx⟩ : ∃ Bx, wr.heap.size = Bx := ⟨_, rfl⟩
      have HBX : Hid (wr.heap.size = Bx) := hBx
      rw [hBx, ← WT.out] at TL
      clear hS hrow hok hx ba ka hwa el ep hnh hnp hmb hB hBx hSa hU hK UA WT
      go_upto_region 5 with fail
      rw [← HWA.out, HBX.out]
      clear HWA y0 y1 y2
      go_wp2_with fail
      refine Calls.mono TL.out ?_
      rintro e w2 ⟨hb2, v', rfl, hT'⟩
      have T2 : Hid (w2.ownsRow N 3 1 v' (goal ++ essS (hypsC (xs.take (j + 1)))).length (rowN (goal ++ essS (hypsC (xs.take (j + 1)))))) := hT'
      have B2 : Hid (Below N w w2) := BA.out.trans hb2
      clear hb2 hT' TL
      go_wp2
      exact ⟨⟨j + 1, _, by omega, by go_num, rfl, T2.out, B2.out⟩, by simp [intOf]; omega⟩
    · have n1 : ¬ (j : Int) < (n : Int) := by omega
      have hall : xs.take j = xs := List.take_of_length_le (by rw [HL.out]; omega)
      have h1 := hU.out
      have h2 := hK.out
      rw [hall] at h1 h2
      have h3 : k ≤ 17592186043904 := by rw [← h2, List.length_append]; exact HP.out.2.1
      obtain ⟨a5, c5, rfl, _, hns⟩ := own_ns h1
      have EV : Hid _ := evars_any wr a5 k c5 _ h2 h3 hns
      have q1 := (HS.out.below B0.out).cells.1
      clear hall hU hK h1 h2 hns
      unfold varsV at q1 EV
      go_wp2_with fail
      refine Calls.mono EV.out ?_
      rintro e w2 ⟨hb2, a2, c2, m, rfl, hm⟩
      have B2 : Hid (Below N w w2) := hB.out.trans (hb2.mono (by have h1 := hB.out.size; have h2 := HN.out; omega))
      have HM : Hid _ := hm
      clear hb2 hm EV
      go_wp2
      go_ret
      exact ⟨B2.out, a2, c2, m, rfl, HM.out⟩
end Go.Proofs.YtkejjiilcoacfaaGreat
