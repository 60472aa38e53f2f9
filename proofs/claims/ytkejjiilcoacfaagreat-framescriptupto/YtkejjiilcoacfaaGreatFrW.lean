/- The active hypotheses that are wanted. -/
import Derived.Test.YtkejjiilcoacfaaGreatFrU
namespace Go.Proofs.YtkejjiilcoacfaaGreat
open Go.Maps Go.RowKit Go.WideMaps

def hypsC (xs : List ScC) : List HyC := xs.flatMap (·.hs)
theorem hyps_take {xs : List ScC} {j : Nat} {x : ScC} (h : xs[j]? = some x) : hypsC (xs.take (j + 1)) = hypsC (xs.take j) ++ x.hs := by unfold hypsC; rw [List.take_add_one, h, List.flatMap_append]; simp
theorem hyps_le (xs : List ScC) (j : Nat) : (hypsC (xs.take j)).length ≤ (hypsC xs).length := by
  unfold hypsC
  conv => rhs; rw [← List.take_append_drop j xs, List.flatMap_append, List.length_append]
  omega
theorem wantF_append (F : Bool → Int → Bool) (l m : List HyC) : wantF F (l ++ m) = wantF F l ++ wantF F m := by unfold wantF; rw [List.map_append, List.filter_append]
theorem wantF_le (F : Bool → Int → Bool) (l : List HyC) : (wantF F l).length ≤ l.length := by
  unfold wantF
  exact Nat.le_trans (List.length_filter_le _ _) (by rw [List.length_map]; exact Nat.le_refl _)

set_option maxRecDepth 100000 in
set_option maxHeartbeats 8000000 in
theorem hyps44_any (w : World) (F : Bool → Int → Bool) (O : Nat → Prop) (P : Nat) (vS : Value) (xs : List ScC) (h : StackAt O w P vS xs) (hn : xs.length ≤ 1048576) (hp : (hypsC xs).length ≤ 1048576) (hlen : ∀ x ∈ xs, ∀ y ∈ x.hs, y.h.ex.length ≤ 17592186044416)
    (hF : ∀ W, Below w.heap.size w W → ∀ (lab : ByteArray) (fl : Bool) (var : Int) (a : Option Addr) (n c : Nat), Calls Tryz.prog 44 #[.agg #[.string lab, .bool fl, .int .i64 var, .slice a n c]] W fun e W' => e = .returned (.bool (F fl var)) ∧ Below W.heap.size W W') :
    Calls Tryz.prog 45 #[.pointer (some ⟨P, 0, none⟩), .func (.func 44) #[] #[]] w fun e w' => Below w.heap.size w w' ∧ ∃ v' ts', e = .returned v' ∧ ToldH w.heap.size w' v' ts' ∧ ts'.map (·.h) = wantF F (hypsC xs) := by
  obtain ⟨a, c, rfl, _⟩ := own_shape h.row
  have x1 := h.cells.2
  obtain ⟨n, hl⟩ : ∃ n, xs.length = n := ⟨_, rfl⟩
  rw [hl] at x1 hn
  have HL : Hid (xs.length = n) := hl
  have HS : Hid (StackAt O w P (.slice a n c) xs) := by have h' := h; rw [hl] at h'; exact h'
  have HP : Hid ((hypsC xs).length ≤ 1048576 ∧ ∀ x ∈ xs, ∀ y ∈ x.hs, y.h.ex.length ≤ 17592186044416) := ⟨hp, hlen⟩
  obtain ⟨N, hN⟩ : ∃ N, w.heap.size = N := ⟨_, rfl⟩
  have HN : Hid (w.heap.size = N) := hN
  rw [hN] at hF ⊢
  have HF : Hid _ := hF
  clear h hl hp hlen hN hF
  go_enter Tryz.func45, Tryz.ntmps45
  go_wp2_with fail
  go_loopw [5, 13] (fun v5 v13 wx => ∃ (j : Nat) (us : List HyC), j ≤ n ∧ v13 = .int .i64 j ∧ Hid (us.map (·.h) = wantF F (hypsC (xs.take j))) ∧ Hid (ToldH N wx v5 us) ∧ Hid (Below N w wx)) (fun _ v13 _ => n - (intOf v13).toNat)
  case atStart => exact ⟨0, [], Nat.zero_le _, rfl, rfl, ToldH.nil _ _, Below.refl _ _⟩
  case round =>
    obtain ⟨j, us, hj, rfl, hU, hT, hB⟩ := hrel
    have B0 : Hid (Below w.heap.size w wr) := by show Below _ _ _; rw [HN.out]; exact hB.out
    by_cases hlt : j < n
    · have n1 : (j : Int) < (n : Int) := by omega
      obtain ⟨x, hx⟩ : ∃ x, xs[j]? = some x := ⟨_, List.getElem?_eq_getElem (by rw [HL.out]; exact hlt)⟩
      have hS := HS.out.below B0.out
      have hrow := hS.row
      rw [HL.out] at hrow
      obtain ⟨g, c', e, _, _, _⟩ := M.own_some hrow (by omega)
      cases e
      obtain ⟨y0, y1, y2⟩ := row_sc hrow j x hx
      obtain ⟨wa, hwa⟩ : ∃ wa, wa = wr.alloc (.cells #[x.vl, .map (some x.mb), x.vp] 83) := ⟨_, rfl⟩
      have ba : Below wr.heap.size wr wa := by rw [hwa]; exact fr_below_alloc _ _
      have ka : wa.heap[wr.heap.size]? = some (.cells #[x.vl, .map (some x.mb), x.vp] 83 (0, 0)) := by rw [hwa]; exact heap_alloc_new wr _
      have BA : Hid (Below N w wa) := hB.out.trans (ba.mono (by have h1 := hB.out.size; have h2 := HN.out; omega))
      have hSa : StackAt O wa P (.slice (some ⟨g, 0, none⟩) n c) xs := HS.out.below (by rw [HN.out]; exact BA.out)
      have hok := hSa.each x (List.mem_of_getElem? hx)
      have hul : us.length ≤ (hypsC (xs.take j)).length := by
        have h1 := wantF_le F (hypsC (xs.take j))
        rw [← hU.out, List.length_map] at h1
        exact h1
      have TL : Hid _ := tell44_any wa F O wr.heap.size N x u5 us hok (M.cell_whole ka 0) (by have h1 := BA.out.size; have h2 := HN.out; omega) (fun b hb => by have h1 := HS.out.lt b hb; have h2 := HN.out; omega) (hT.out.below ba) (by
        have h1 := hyps_le xs (j + 1)
        rw [hyps_take hx, List.length_append] at h1
        have h2 := HP.out.1
        omega) (HP.out.2 x (List.mem_of_getElem? hx)) (fun W hW => HF.out W (BA.out.trans hW))
      have WT : Hid (wantF F (hypsC (xs.take (j + 1))) = us.map (·.h) ++ wantF F x.hs) := by show _ = _; rw [hyps_take hx, wantF_append, hU.out]
      obtain ⟨al, cl, el, _⟩ := own_shape (hS.each x (List.mem_of_getElem? hx)).l
      obtain ⟨ap, cp, ep, _⟩ := own_shape (hS.each x (List.mem_of_getElem? hx)).p
      rw [el] at y0 hwa
      rw [ep] at y2 hwa
      obtain ⟨nh, hnh⟩ : ∃ nh, x.hs.length = nh := ⟨_, rfl⟩
      obtain ⟨np, hnp⟩ : ∃ np, x.ps.length = np := ⟨_, rfl⟩
      obtain ⟨mb, hmb⟩ : ∃ mb, x.mb = mb := ⟨_, rfl⟩
      rw [hnh] at y0 hwa
      rw [hmb] at y1 hwa
      rw [hnp] at y2 hwa
      have HWA : Hid (wa = wr.alloc (.cells #[.slice al nh cl, .map (some mb), .slice ap np cp] 83)) := hwa
      obtain ⟨Bx, hBx⟩ : ∃ Bx, wr.heap.size = Bx := ⟨_, rfl⟩
      have HBX : Hid (wr.heap.size = Bx) := hBx
      rw [hBx] at TL
      clear hS hrow hok hx ba ka hwa el ep hnh hnp hmb hB hBx hSa hul hU hT
      go_upto_region 5 with fail
      rw [← HWA.out, HBX.out]
      clear HWA y0 y1 y2
      go_wp2_with fail
      refine Calls.mono TL.out ?_
      rintro e w2 ⟨hb2, v', ts', rfl, hT', hm'⟩
      have T2 : Hid (ToldH N w2 v' ts') := hT'
      have U2 : Hid (ts'.map (·.h) = wantF F (hypsC (xs.take (j + 1)))) := hm'.trans WT.out.symm
      have B2 : Hid (Below N w w2) := BA.out.trans hb2
      clear hb2 hT' hm' TL WT
      go_wp2
      exact ⟨⟨j + 1, ts', by omega, by go_num, U2.out, T2.out, B2.out⟩, by simp [intOf]; omega⟩
    · have n1 : ¬ (j : Int) < (n : Int) := by omega
      have hall : xs.take j = xs := List.take_of_length_le (by rw [HL.out]; omega)
      have U2 : Hid (us.map (·.h) = wantF F (hypsC xs)) := by have h := hU.out; rw [hall] at h; exact h
      clear hall hU
      go_wp2
      go_ret
      exact ⟨hB.out, _, rfl, us, hT.out, U2.out⟩

set_option maxRecDepth 100000 in
set_option maxHeartbeats 8000000 in
theorem hyps52_any (w : World) (MB : Nat) (F : Bool → Int → Bool) (O : Nat → Prop) (P : Nat) (vS : Value) (xs : List ScC) (h : StackAt O w P vS xs) (hn : xs.length ≤ 1048576) (hp : (hypsC xs).length ≤ 1048576) (hlen : ∀ x ∈ xs, ∀ y ∈ x.hs, y.h.ex.length ≤ 17592186044416)
    (hF : ∀ W, Below w.heap.size w W → ∀ (lab : ByteArray) (fl : Bool) (var : Int) (a : Option Addr) (n c : Nat), Calls Tryz.prog 52 #[.agg #[.string lab, .bool fl, .int .i64 var, .slice a n c], .pointer (some ⟨MB, 0, none⟩)] W fun e W' => e = .returned (.bool (F fl var)) ∧ Below W.heap.size W W') :
    Calls Tryz.prog 45 #[.pointer (some ⟨P, 0, none⟩), .func (.func 52) #[] #[.pointer (some ⟨MB, 0, none⟩)]] w fun e w' => Below w.heap.size w w' ∧ ∃ v' ts', e = .returned v' ∧ ToldH w.heap.size w' v' ts' ∧ ts'.map (·.h) = wantF F (hypsC xs) := by
  obtain ⟨a, c, rfl, _⟩ := own_shape h.row
  have x1 := h.cells.2
  obtain ⟨n, hl⟩ : ∃ n, xs.length = n := ⟨_, rfl⟩
  rw [hl] at x1 hn
  have HL : Hid (xs.length = n) := hl
  have HS : Hid (StackAt O w P (.slice a n c) xs) := by have h' := h; rw [hl] at h'; exact h'
  have HP : Hid ((hypsC xs).length ≤ 1048576 ∧ ∀ x ∈ xs, ∀ y ∈ x.hs, y.h.ex.length ≤ 17592186044416) := ⟨hp, hlen⟩
  obtain ⟨N, hN⟩ : ∃ N, w.heap.size = N := ⟨_, rfl⟩
  have HN : Hid (w.heap.size = N) := hN
  rw [hN] at hF ⊢
  have HF : Hid _ := hF
  clear h hl hp hlen hN hF
  go_enter Tryz.func45, Tryz.ntmps45
  go_wp2_with fail
  go_loopw [5, 13] (fun v5 v13 wx => ∃ (j : Nat) (us : List HyC), j ≤ n ∧ v13 = .int .i64 j ∧ Hid (us.map (·.h) = wantF F (hypsC (xs.take j))) ∧ Hid (ToldH N wx v5 us) ∧ Hid (Below N w wx)) (fun _ v13 _ => n - (intOf v13).toNat)
  case atStart => exact ⟨0, [], Nat.zero_le _, rfl, rfl, ToldH.nil _ _, Below.refl _ _⟩
  case round =>
    obtain ⟨j, us, hj, rfl, hU, hT, hB⟩ := hrel
    have B0 : Hid (Below w.heap.size w wr) := by show Below _ _ _; rw [HN.out]; exact hB.out
    by_cases hlt : j < n
    · have n1 : (j : Int) < (n : Int) := by omega
      obtain ⟨x, hx⟩ : ∃ x, xs[j]? = some x := ⟨_, List.getElem?_eq_getElem (by rw [HL.out]; exact hlt)⟩
      have hS := HS.out.below B0.out
      have hrow := hS.row
      rw [HL.out] at hrow
      obtain ⟨g, c', e, _, _, _⟩ := M.own_some hrow (by omega)
      cases e
      obtain ⟨y0, y1, y2⟩ := row_sc hrow j x hx
      obtain ⟨wa, hwa⟩ : ∃ wa, wa = wr.alloc (.cells #[x.vl, .map (some x.mb), x.vp] 83) := ⟨_, rfl⟩
      have ba : Below wr.heap.size wr wa := by rw [hwa]; exact fr_below_alloc _ _
      have ka : wa.heap[wr.heap.size]? = some (.cells #[x.vl, .map (some x.mb), x.vp] 83 (0, 0)) := by rw [hwa]; exact heap_alloc_new wr _
      have BA : Hid (Below N w wa) := hB.out.trans (ba.mono (by have h1 := hB.out.size; have h2 := HN.out; omega))
      have hSa : StackAt O wa P (.slice (some ⟨g, 0, none⟩) n c) xs := HS.out.below (by rw [HN.out]; exact BA.out)
      have hok := hSa.each x (List.mem_of_getElem? hx)
      have hul : us.length ≤ (hypsC (xs.take j)).length := by
        have h1 := wantF_le F (hypsC (xs.take j))
        rw [← hU.out, List.length_map] at h1
        exact h1
      have TL : Hid _ := tell52_any wa MB F O wr.heap.size N x u5 us hok (M.cell_whole ka 0) (by have h1 := BA.out.size; have h2 := HN.out; omega) (fun b hb => by have h1 := HS.out.lt b hb; have h2 := HN.out; omega) (hT.out.below ba) (by
        have h1 := hyps_le xs (j + 1)
        rw [hyps_take hx, List.length_append] at h1
        have h2 := HP.out.1
        omega) (HP.out.2 x (List.mem_of_getElem? hx)) (fun W hW => HF.out W (BA.out.trans hW))
      have WT : Hid (wantF F (hypsC (xs.take (j + 1))) = us.map (·.h) ++ wantF F x.hs) := by show _ = _; rw [hyps_take hx, wantF_append, hU.out]
      obtain ⟨al, cl, el, _⟩ := own_shape (hS.each x (List.mem_of_getElem? hx)).l
      obtain ⟨ap, cp, ep, _⟩ := own_shape (hS.each x (List.mem_of_getElem? hx)).p
      rw [el] at y0 hwa
      rw [ep] at y2 hwa
      obtain ⟨nh, hnh⟩ : ∃ nh, x.hs.length = nh := ⟨_, rfl⟩
      obtain ⟨np, hnp⟩ : ∃ np, x.ps.length = np := ⟨_, rfl⟩
      obtain ⟨mb, hmb⟩ : ∃ mb, x.mb = mb := ⟨_, rfl⟩
      rw [hnh] at y0 hwa
      rw [hmb] at y1 hwa
      rw [hnp] at y2 hwa
      have HWA : Hid (wa = wr.alloc (.cells #[.slice al nh cl, .map (some mb), .slice ap np cp] 83)) := hwa
      obtain ⟨Bx, hBx⟩ : ∃ Bx, wr.heap.size = Bx := ⟨_, rfl⟩
      have HBX : Hid (wr.heap.size = Bx) := hBx
      rw [hBx] at TL
      clear hS hrow hok hx ba ka hwa el ep hnh hnp hmb hB hBx hSa hul hU hT
      go_upto_region 5 with fail
      rw [← HWA.out, HBX.out]
      clear HWA y0 y1 y2
      go_wp2_with fail
      refine Calls.mono TL.out ?_
      rintro e w2 ⟨hb2, v', ts', rfl, hT', hm'⟩
      have T2 : Hid (ToldH N w2 v' ts') := hT'
      have U2 : Hid (ts'.map (·.h) = wantF F (hypsC (xs.take (j + 1)))) := hm'.trans WT.out.symm
      have B2 : Hid (Below N w w2) := BA.out.trans hb2
      clear hb2 hT' hm' TL WT
      go_wp2
      exact ⟨⟨j + 1, ts', by omega, by go_num, U2.out, T2.out, B2.out⟩, by simp [intOf]; omega⟩
    · have n1 : ¬ (j : Int) < (n : Int) := by omega
      have hall : xs.take j = xs := List.take_of_length_le (by rw [HL.out]; omega)
      have U2 : Hid (us.map (·.h) = wantF F (hypsC xs)) := by have h := hU.out; rw [hall] at h; exact h
      clear hall hU
      go_wp2
      go_ret
      exact ⟨hB.out, _, rfl, us, hT.out, U2.out⟩
end Go.Proofs.YtkejjiilcoacfaaGreat
